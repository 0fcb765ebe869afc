import PyProof.Rows.All
import Wide.All
import OpenK.AllK
import Wide.FinOn
import HandS.ForMost
import HandS.Evl
import HandS.Wide
import HandS.IsInst
import HandS.SortInts
import HandS.SortOrd
import KE.GoesEnum
import PyProof.TupleOfSeq
import PyProof.WalkInts
import HandS.Rev
import PyProof.ListNew
import HandS.TupAny
import HandS.SetFor
import HandS.Zip
import PyProof.Rows.CountFlat
import PyProof.P3In
import KE.KDictWalk
import HandS.Style
import HandS.Conv
import HandS.Defaults
import PyProof.DictMoreH
import PyProof.ReprRoads
import PyProof.Rows.ReprOcc
import PySem.Challenge.RW_pairwarden_k05_papers_of_dealings
section
set_option Elab.async false
set_option linter.all false
set_option maxRecDepth 100000
set_option autoImplicit false
set_option maxHeartbeats 2000000
/-! Data as trees over the layer: what is represented, what is owned. -/
namespace Zk
open PySem L2
open Evl (Ex)

inductive D where
  | non | bl (b : Bool) | int (i : Int) | str (s : Str)
  | lst (ds : List D) | tup (ds : List D)
  | scr (ns : List Int)
  | ins (C : Addr) (fs : List (Str × D))
  | dct (kvs : List (List Key × D))
  | ty (n : String) | cls (C : Addr)

def D.flat : D → Bool
  | .non => true | .bl _ => true | .int _ => true | .str _ => true | .ty _ => true | .cls _ => true | _ => false

variable {K : PySem.W.Frag}

mutual
inductive Rp (K : PySem.W.Frag) (O : Addr → Prop) (H : Hp) : V → D → Prop
  | non : Rp K O H .non .non
  | bl (b : Bool) : Rp K O H (.bl b) (.bl b)
  | int (i : Int) : Rp K O H (.int i) (.int i)
  | str (s : Str) : Rp K O H (.str s) (.str s)
  | ty (n : String) : Rp K O H (.ty n) (.ty n)
  | cls (C : Addr) : Rp K O H (.ref C) (.cls C)
  | lst {a : Addr} {xs : List V} {ds : List D} : ¬ O a → H a = some (.lst xs) → RpA K O H xs ds → Rp K O H (.ref a) (.lst ds)
  | tup {a : Addr} {xs : List V} {ds : List D} : ¬ O a → H a = some (.tup xs) → RpA K O H xs ds → Rp K O H (.ref a) (.tup ds)
  | dct {a : Addr} {xs : List (List Key × V)} {kvs : List (List Key × D)} : ¬ O a → H a = some (.dT xs) → xs.map (·.1) = kvs.map (·.1) → RpA K O H (xs.map (·.2)) (kvs.map (·.2)) → Rp K O H (.ref a) (.dct kvs)
  | scr {a : Addr} {ns : List Int} : ¬ O a → Rd H a (.lst (ns.map V.int)) → Rp K O H (.ref a) (.scr ns)
  | kscr {a : Addr} {ns : List Int} : (∀ G : Hp, SqL K G a (ns.map V.int)) → Rp K O H (.ref a) (.scr ns)
  | ins {a C dx : Addr} {fs : List (Str × V)} {gs : List (Str × D)} : ¬ O a → H a = some (.ins C dx fs) → RpF K O H fs gs → Rp K O H (.ref a) (.ins C gs)
inductive RpA (K : PySem.W.Frag) (O : Addr → Prop) (H : Hp) : List V → List D → Prop
  | nil : RpA K O H [] []
  | cons {v : V} {vs : List V} {d : D} {ds : List D} : Rp K O H v d → RpA K O H vs ds → RpA K O H (v :: vs) (d :: ds)
inductive RpF (K : PySem.W.Frag) (O : Addr → Prop) (H : Hp) : List (Str × V) → List (Str × D) → Prop
  | nil : RpF K O H [] []
  | cons {n : Str} {v : V} {vs : List (Str × V)} {d : D} {ds : List (Str × D)} : Rp K O H v d → RpF K O H vs ds → RpF K O H ((n, v) :: vs) ((n, d) :: ds)
end

/-- what H and O know stays known by H' and O' -/
def Kp (O : Addr → Prop) (H : Hp) (O' : Addr → Prop) (H' : Hp) : Prop := ∀ a o, ¬ O a → H a = some o → ¬ O' a ∧ H' a = some o
theorem Kp.refl (O : Addr → Prop) (H : Hp) : Kp O H O H := fun _ _ h e => ⟨h, e⟩
theorem Kp.trans {O O1 O2 : Addr → Prop} {H H1 H2 : Hp} (x : Kp O H O1 H1) (y : Kp O1 H1 O2 H2) : Kp O H O2 H2 := fun a o h e => y a o (x a o h e).1 (x a o h e).2
theorem Kp.ex {O : Addr → Prop} {H H' : Hp} (e : Ex H H') : Kp O H O H' := fun a o h q => ⟨h, e a o q⟩

mutual
theorem Rp.kp {O O' : Addr → Prop} {H H' : Hp} (k : Kp O H O' H') : ∀ {v : V} {d : D}, Rp K O H v d → Rp K O' H' v d
  | _, _, .non => .non
  | _, _, .bl b => .bl b
  | _, _, .int i => .int i
  | _, _, .str s => .str s
  | _, _, .ty n => .ty n
  | _, _, .cls C => .cls C
  | _, _, .lst n h r => .lst (k _ _ n h).1 (k _ _ n h).2 (RpA.kp k r)
  | _, _, .tup n h r => .tup (k _ _ n h).1 (k _ _ n h).2 (RpA.kp k r)
  | _, _, .dct n h e r => .dct (k _ _ n h).1 (k _ _ n h).2 e (RpA.kp k r)
  | _, _, .scr n (.inl h) => .scr (k _ _ n h).1 (.inl (k _ _ n h).2)
  | _, _, .scr n (.inr ⟨o, h⟩) => .scr (k _ _ n h).1 (.inr ⟨o, (k _ _ n h).2⟩)
  | _, _, .kscr h => .kscr h
  | _, _, .ins n h r => .ins (k _ _ n h).1 (k _ _ n h).2 (RpF.kp k r)
theorem RpA.kp {O O' : Addr → Prop} {H H' : Hp} (k : Kp O H O' H') : ∀ {v : List V} {d : List D}, RpA K O H v d → RpA K O' H' v d
  | _, _, .nil => .nil
  | _, _, .cons h r => .cons (Rp.kp k h) (RpA.kp k r)
theorem RpF.kp {O O' : Addr → Prop} {H H' : Hp} (k : Kp O H O' H') : ∀ {v : List (Str × V)} {d : List (Str × D)}, RpF K O H v d → RpF K O' H' v d
  | _, _, .nil => .nil
  | _, _, .cons h r => .cons (Rp.kp k h) (RpF.kp k r)
end

theorem Rp.ex {O : Addr → Prop} {H H' : Hp} {v : V} {d : D} (r : Rp K O H v d) (e : Ex H H') : Rp K O H' v d := r.kp (Kp.ex e)
theorem RpA.ex {O : Addr → Prop} {H H' : Hp} {v : List V} {d : List D} (r : RpA K O H v d) (e : Ex H H') : RpA K O H' v d := r.kp (Kp.ex e)
theorem RpF.ex {O : Addr → Prop} {H H' : Hp} {v : List (Str × V)} {d : List (Str × D)} (r : RpF K O H v d) (e : Ex H H') : RpF K O H' v d := r.kp (Kp.ex e)
/-- flat data wants no heap -/
theorem Rp.flat {O O' : Addr → Prop} {H H' : Hp} {v : V} {d : D} (r : Rp K O H v d) (f : d.flat = true) : Rp K O' H' v d := by
  cases r <;> first | (cases f; done) | exact .non | exact .bl _ | exact .int _ | exact .str _ | exact .ty _ | exact .cls _

theorem RpA.len {O : Addr → Prop} {H : Hp} : ∀ {v : List V} {d : List D}, RpA K O H v d → v.length = d.length
  | _, _, .nil => rfl
  | _, _, .cons _ r => congrArg (· + 1) r.len
theorem RpA.get {O : Addr → Prop} {H : Hp} : ∀ {vs : List V} {ds : List D} {i : Nat} {d : D}, RpA K O H vs ds → ds[i]? = some d → ∃ v, vs[i]? = some v ∧ Rp K O H v d
  | _, _, i, d, .nil, e => by simp at e
  | _, _, 0, d, .cons h r, e => by
    simp at e
    subst e
    exact ⟨_, rfl, h⟩
  | _, _, i + 1, d, .cons h r, e => by
    simp at e
    obtain ⟨v, e1, e2⟩ := RpA.get r e
    exact ⟨v, by simpa using e1, e2⟩
theorem RpA.got {O : Addr → Prop} {H : Hp} : ∀ {vs : List V} {ds : List D} {i : Nat} {v : V}, RpA K O H vs ds → vs[i]? = some v → ∃ d, ds[i]? = some d ∧ Rp K O H v d
  | _, _, i, d, .nil, e => by simp at e
  | _, _, 0, d, .cons h r, e => by
    simp at e
    subst e
    exact ⟨_, rfl, h⟩
  | _, _, i + 1, d, .cons h r, e => by
    simp at e
    obtain ⟨v, e1, e2⟩ := RpA.got r e
    exact ⟨v, by simpa using e1, e2⟩
theorem RpA.app {O : Addr → Prop} {H : Hp} : ∀ {vs : List V} {ds : List D} {ws : List V} {es : List D}, RpA K O H vs ds → RpA K O H ws es → RpA K O H (vs ++ ws) (ds ++ es)
  | _, _, _, _, .nil, r => r
  | _, _, _, _, .cons h q, r => .cons h (q.app r)
theorem RpA.one {O : Addr → Prop} {H : Hp} {v : V} {d : D} (r : Rp K O H v d) : RpA K O H [v] [d] := .cons r .nil
theorem RpA.take {O : Addr → Prop} {H : Hp} : ∀ {vs : List V} {ds : List D} (n : Nat), RpA K O H vs ds → RpA K O H (vs.take n) (ds.take n)
  | _, _, 0, _ => .nil
  | _, _, n + 1, .nil => .nil
  | _, _, n + 1, .cons h r => .cons h (r.take n)
theorem RpA.drop {O : Addr → Prop} {H : Hp} : ∀ {vs : List V} {ds : List D} (n : Nat), RpA K O H vs ds → RpA K O H (vs.drop n) (ds.drop n)
  | _, _, 0, r => r
  | _, _, n + 1, .nil => .nil
  | _, _, n + 1, .cons _ r => r.drop n
theorem RpA.set {O : Addr → Prop} {H : Hp} {v : V} {d : D} (h : Rp K O H v d) : ∀ {vs : List V} {ds : List D} (n : Nat), RpA K O H vs ds → RpA K O H (vs.set n v) (ds.set n d)
  | _, _, _, .nil => .nil
  | _, _, 0, .cons _ r => .cons h r
  | _, _, n + 1, .cons q r => .cons q (r.set h n)
theorem RpA.reverse {O : Addr → Prop} {H : Hp} {vs : List V} {ds : List D} (r : RpA K O H vs ds) : RpA K O H vs.reverse ds.reverse := by
  induction r using RpA.rec (motive_1 := fun _ _ _ => True) (motive_3 := fun _ _ _ => True) with
  | nil => exact .nil
  | cons h _ _ ih => rw [List.reverse_cons, List.reverse_cons]; exact ih.app (.one h)
  | _ => trivial
/-- a list of ints -/
def iL (ns : List Int) : List D := ns.map D.int
theorem RpA.toInts {O : Addr → Prop} {H : Hp} : ∀ {vs : List V} {ns : List Int}, RpA K O H vs (Zk.iL ns) → vs = ns.map V.int
  | _, [], .nil => rfl
  | _, n :: ns, .cons (.int _) r => by rw [List.map_cons, r.toInts]
theorem RpA.ofInts {O : Addr → Prop} {H : Hp} : ∀ (ns : List Int), RpA K O H (ns.map V.int) (Zk.iL ns)
  | [] => .nil
  | n :: ns => .cons (.int n) (RpA.ofInts ns)
theorem RpF.look {O : Addr → Prop} {H : Hp} {f : Str} : ∀ {fs : List (Str × V)} {gs : List (Str × D)} {d : D}, RpF K O H fs gs → gs.lookup f = some d → ∃ v, fs.lookup f = some v ∧ Rp K O H v d
  | _, _, d, .nil, e => by cases e
  | _, _, d, .cons (n := n) h r, e => by
    rw [List.lookup_cons] at e ⊢
    cases q : (f == n) with
    | true =>
      rw [q] at e
      cases e
      exact ⟨_, rfl, h⟩
    | false =>
      rw [q] at e
      exact r.look e

/-! ### the state of a def: slots, what is owned -/
inductive Wd where
  | v (d : D) | o (d : D)
abbrev Gm : Type := List (Option Wd)

/-- an owned thing: its top stands apart, what it holds is known -/
def RpO (K : PySem.W.Frag) (O : Addr → Prop) (H : Hp) (a : Addr) : D → Prop
  | .lst ds => ∃ xs, H a = some (.lst xs) ∧ RpA K O H xs ds
  | .ins C gs => ∃ dx fs, H a = some (.ins C dx fs) ∧ RpF K O H fs gs
  | .dct kvs => ∃ xs, H a = some (.dT xs) ∧ xs.map (·.1) = kvs.map (·.1) ∧ RpA K O H (xs.map (·.2)) (kvs.map (·.2))
  | _ => False
theorem RpO.kp {O O' : Addr → Prop} {H H' : Hp} {a : Addr} {d : D} (k : Kp O H O' H') (e : H' a = H a) (r : RpO K O H a d) : RpO K O' H' a d := by
  cases d with
  | lst ds => obtain ⟨xs, h, q⟩ := r; exact ⟨xs, e.trans h, q.kp k⟩
  | ins C gs => obtain ⟨dx, fs, h, q⟩ := r; exact ⟨dx, fs, e.trans h, q.kp k⟩
  | dct kvs => obtain ⟨xs, h, e1, q⟩ := r; exact ⟨xs, e.trans h, e1, q.kp k⟩
  | _ => exact r.elim
theorem RpO.rp {O O' : Addr → Prop} {H : Hp} {a : Addr} {d : D} (k : Kp O H O' H) (n : ¬ O' a) (r : RpO K O H a d) : Rp K O' H (.ref a) d := by
  cases d with
  | lst ds => obtain ⟨xs, h, q⟩ := r; exact .lst n h (q.kp k)
  | ins C gs => obtain ⟨dx, fs, h, q⟩ := r; exact .ins n h (q.kp k)
  | dct kvs => obtain ⟨xs, h, e1, q⟩ := r; exact .dct n h e1 (q.kp k)
  | _ => exact r.elim
/-- there, and no tuple -/
def Lv (H : Hp) (a : Addr) : Prop := H a ≠ none ∧ ∀ xs, H a ≠ some (.tup xs)
theorem Lv.ex {H H' : Hp} {a : Addr} (h : Lv H a) (e : Ex H H') : Lv H' a := by
  cases z : H a with
  | none => exact absurd z h.1
  | some o =>
    have := e a o z
    exact ⟨fun q => (by rw [this] at q; cases q), fun xs q => (by rw [this] at q; exact h.2 xs (z.trans q))⟩
theorem RpO.lv {O : Addr → Prop} {H : Hp} {a : Addr} {d : D} (r : RpO K O H a d) : Lv H a := by
  cases d with
  | lst ds => obtain ⟨xs, h, q⟩ := r; exact ⟨fun z => (by rw [h] at z; cases z), fun _ z => (by rw [h] at z; cases z)⟩
  | ins C gs => obtain ⟨dx, fs, h, q⟩ := r; exact ⟨fun z => (by rw [h] at z; cases z), fun _ z => (by rw [h] at z; cases z)⟩
  | dct kvs => obtain ⟨xs, h, e1, q⟩ := r; exact ⟨fun z => (by rw [h] at z; cases z), fun _ z => (by rw [h] at z; cases z)⟩
  | _ => exact r.elim
theorem RpO.there {O : Addr → Prop} {H : Hp} {a : Addr} {d : D} (r : RpO K O H a d) : H a ≠ none := by
  cases d with
  | lst ds => obtain ⟨xs, h, q⟩ := r; rw [h]; exact fun z => by cases z
  | ins C gs => obtain ⟨dx, fs, h, q⟩ := r; rw [h]; exact fun z => by cases z
  | dct kvs => obtain ⟨xs, h, e1, q⟩ := r; rw [h]; exact fun z => by cases z
  | _ => exact r.elim

abbrev OW := Nat → Option Addr
def OO (Oc : Addr → Prop) (ow : OW) : Addr → Prop := fun a => Oc a ∨ ∃ i, ow i = some a
def noOw : OW := fun _ => none

/-- what is kept in sight: values that stay known; the object that slot 0 makes -/
structure Pn where
  ps : List (V × D)
  me : Option Addr

structure Reps (K : PySem.W.Frag) (H0 : Hp) (Oc : Addr → Prop) (pins : Pn) (ow : OW) (σ : L2.St) (H : Hp) (g : Gm) : Prop where
  len : σ.length = g.length
  ex : Ex H0 H
  oc : ∀ a, Oc a → Lv H0 a
  fr : ∀ (i : Nat) (a : Addr), ow i = some a → H0 a = none ∧ Lv H a
  inj : ∀ (i j : Nat) (a : Addr), ow i = some a → ow j = some a → i = j
  is : ∀ (i : Nat) (a : Addr), ow i = some a → ∃ d : D, g[i]? = some (some (Wd.o d))
  val : ∀ (i : Nat) (d : D), g[i]? = some (some (Wd.v d)) → ∃ v, σ[i]? = some (some v) ∧ Rp K (OO Oc ow) H v d
  own : ∀ (i : Nat) (d : D), g[i]? = some (some (Wd.o d)) → ∃ a, ow i = some a ∧ σ[i]? = some (some (.ref a)) ∧ RpO K (OO Oc ow) H a d
  pin : ∀ p ∈ pins.ps, Rp K (OO Oc ow) H p.1 p.2
  slf : ∀ x, pins.me = some x → ow 0 = some x

section
variable {H0 H H' : Hp} {Oc : Addr → Prop} {pins : Pn} {ow : OW} {σ : L2.St} {g : Gm}
theorem Reps.oo (R : Reps K H0 Oc pins ow σ H g) : ∀ a, OO Oc ow a → Lv H a := fun a h => by
  rcases h with h | ⟨i, h⟩
  · exact (R.oc a h).ex R.ex
  · exact (R.fr i a h).2
theorem Reps.grow (R : Reps K H0 Oc pins ow σ H g) (e : Ex H H') : Reps K H0 Oc pins ow σ H' g where
  len := R.len
  ex := R.ex.trans e
  oc := R.oc
  fr := fun i a h => ⟨(R.fr i a h).1, (R.fr i a h).2.ex e⟩
  inj := R.inj
  is := R.is
  val := fun i d h => let ⟨v, h1, h2⟩ := R.val i d h; ⟨v, h1, h2.ex e⟩
  own := fun i d h => let ⟨a, h1, h2, h3⟩ := R.own i d h; ⟨a, h1, h2, h3.kp (Kp.ex e) (by
    cases z : H a with
    | none => exact absurd z h3.there
    | some o => exact e a o z)⟩
  pin := fun p h => (R.pin p h).ex e
  slf := R.slf
theorem Reps.new {p : Addr} (R : Reps K H0 Oc pins ow σ H g) (h : H p = none) : ¬ OO Oc ow p := fun q => (R.oo p q).1 h
end

/-! ### freezing -/
def Wd.frz : Wd → Wd
  | .v d => .v d
  | .o d => .v d
def frzAll (g : Gm) : Gm := g.map (Option.map Wd.frz)
theorem frzAll_get (g : Gm) (i : Nat) : (frzAll g)[i]? = (g[i]?).map (Option.map Wd.frz) := by unfold frzAll; rw [List.getElem?_map]
def frz1 (g : Gm) (i : Nat) : Gm := if i = 0 then g else match g[i]? with
  | some (some (Wd.o d)) => g.set i (some (Wd.v d))
  | _ => g
def frzs (g : Gm) : List Nat → Gm
  | [] => g
  | i :: is => frzs (frz1 g i) is

section
variable {H0 H H' : Hp} {Oc : Addr → Prop} {pins : Pn} {ow : OW} {σ : L2.St} {g : Gm}
theorem Reps.kpDrop (R : Reps K H0 Oc pins ow σ H g) {ow' : OW} (h : ∀ i a, ow' i = some a → ow i = some a) : Kp (OO Oc ow) H (OO Oc ow') H := fun a o n e =>
  ⟨fun q => n (q.imp id fun ⟨i, z⟩ => ⟨i, h i a z⟩), e⟩
theorem Reps.frzAll (R : Reps K H0 Oc pins ow σ H g) : Reps K H0 Oc ⟨pins.ps, none⟩ noOw σ H (frzAll g) where
  len := by unfold Zk.frzAll; rw [List.length_map]; exact R.len
  ex := R.ex
  oc := R.oc
  fr := fun i a h => by cases h
  inj := fun i j a h => by cases h
  is := fun i a h => by cases h
  val := fun i d h => by
    have k := R.kpDrop (ow' := noOw) (fun i a z => by cases z)
    rw [frzAll_get] at h
    cases q : g[i]? with
    | none => rw [q] at h; cases h
    | some o =>
      rw [q] at h
      cases o with
      | none => cases h
      | some w =>
        cases w with
        | v d' =>
          cases h
          obtain ⟨v, h1, h2⟩ := R.val i d q
          exact ⟨v, h1, h2.kp k⟩
        | o d' =>
          cases h
          obtain ⟨a, h1, h2, h3⟩ := R.own i d q
          refine ⟨.ref a, h2, h3.rp k fun z => ?_⟩
          rcases z with z | ⟨j, z⟩
          · exact (R.oc a z).1 (R.fr i a h1).1
          · cases z
  own := fun i d h => by
    rw [frzAll_get] at h
    cases q : g[i]? with
    | none => rw [q] at h; cases h
    | some o =>
      rw [q] at h
      cases o with
      | none => cases h
      | some w => cases w <;> cases h
  pin := fun p h => (R.pin p h).kp (R.kpDrop (fun i a z => by cases z))
  slf := fun x h => by cases h
theorem Reps.frz1 (R : Reps K H0 Oc pins ow σ H g) (i : Nat) : ∃ ow', Reps K H0 Oc pins ow' σ H (frz1 g i) := by
  unfold Zk.frz1
  by_cases i0 : i = 0
  · rw [if_pos i0]; exact ⟨ow, R⟩
  rw [if_neg i0]
  split
  · rename_i d hd
    have hi : i < g.length := (List.getElem?_eq_some_iff.mp hd).1
    have hk : ∀ j a, (fun j => if j = i then none else ow j) j = some a → ow j = some a := fun j a z => by
      dsimp only at z
      split at z
      · cases z
      · exact z
    have k := R.kpDrop hk
    obtain ⟨ai, hi1, hi2, hi3⟩ := R.own i d hd
    refine ⟨fun j => if j = i then none else ow j, ?_⟩
    exact {
      len := by rw [List.length_set]; exact R.len
      ex := R.ex
      oc := R.oc
      fr := fun j a h => R.fr j a (hk j a h)
      inj := fun j l a h h' => R.inj j l a (hk j a h) (hk l a h')
      is := fun j a h => by
        have q := R.is j a (hk j a h)
        have n : j ≠ i := fun z => by
          rw [if_pos z] at h; cases h
        rw [List.getElem?_set_ne (Ne.symm n)]
        exact q
      val := fun j d' h => by
        by_cases n : j = i
        · subst n
          rw [List.getElem?_set_self hi] at h
          cases h
          refine ⟨.ref ai, hi2, hi3.rp k fun z => ?_⟩
          rcases z with z | ⟨l, z⟩
          · exact (R.oc ai z).1 (R.fr j ai hi1).1
          · have e := R.inj l j ai (hk l ai z) hi1
            have z' : (if l = j then none else ow l) = some ai := z
            rw [if_pos e] at z'
            cases z'
        · rw [List.getElem?_set_ne (Ne.symm n)] at h
          obtain ⟨v, h1, h2⟩ := R.val j d' h
          exact ⟨v, h1, h2.kp k⟩
      own := fun j d' h => by
        by_cases n : j = i
        · subst n
          rw [List.getElem?_set_self hi] at h
          cases h
        · rw [List.getElem?_set_ne (Ne.symm n)] at h
          obtain ⟨a, h1, h2, h3⟩ := R.own j d' h
          exact ⟨a, by rw [if_neg n]; exact h1, h2, h3.kp k rfl⟩
      pin := fun p h => (R.pin p h).kp k
      slf := fun x h => by rw [if_neg (Ne.symm i0)]; exact R.slf x h }
  · exact ⟨ow, R⟩
theorem Reps.frzs : ∀ (is : List Nat) {ow : OW} {g : Gm}, Reps K H0 Oc pins ow σ H g → ∃ ow', Reps K H0 Oc pins ow' σ H (Zk.frzs g is)
  | [], ow, g, R => ⟨ow, R⟩
  | i :: is, ow, g, R => by
    obtain ⟨ow1, R1⟩ := R.frz1 i
    exact Reps.frzs is R1
end
end Zk
end

section
set_option Elab.async false
set_option linter.all false
set_option maxRecDepth 100000
set_option autoImplicit false
set_option maxHeartbeats 2000000
/-! What expressions are worth, as data. -/
namespace Zk
open PySem L2
open Evl (Ex)

abbrev DF : Type := Gm → Option D
abbrev DAF : Type := Gm → Option (List D)
abbrev DTF : Type := Gm → Option Bool
def dVar (i : Nat) : DF := fun g => match g[i]? with
  | some (some (.v d)) => some d
  | _ => none
def dC (d : D) : DF := fun _ => some d
def d1 (f : D → Option D) (a : DF) : DF := fun g => (a g).bind f
def d2 (f : D → D → Option D) (a b : DF) : DF := fun g => (a g).bind fun x => (b g).bind fun y => f x y
def dN (f : List D → Option D) (a : DAF) : DF := fun g => (a g).bind f
def aNil : DAF := fun _ => some []
def aCons (a : DF) (r : DAF) : DAF := fun g => (a g).bind fun x => (r g).bind fun xs => some (x :: xs)
def mkTup (xs : List D) : Option D := if xs.length ≤ 100000 then some (.tup xs) else none
def mkLst (xs : List D) : Option D := if xs.length ≤ 100000 then some (.lst xs) else none

section
variable (K : PySem.W.Frag)
/-- an expression's reading te is worth t -/
def ER (te : TE) (t : DF) : Prop := ∀ g d, t g = some d → ∀ H0 Oc pins ow σ H, Reps K H0 Oc pins ow σ H g → ∀ Q : VK, (∀ v H', Ex H H' → Rp K (OO Oc ow) H' v d → Q v H') → te σ H Q
def AR (ta : TA) (t : DAF) : Prop := ∀ g ds, t g = some ds → ∀ H0 Oc pins ow σ H, Reps K H0 Oc pins ow σ H g → ∀ Q : List V → Hp → Prop, (∀ vs H', Ex H H' → RpA K (OO Oc ow) H' vs ds → Q vs H') → ta σ H Q
def TR (tt : TT) (t : DTF) : Prop := ∀ g b, t g = some b → ∀ H0 Oc pins ow σ H, Reps K H0 Oc pins ow σ H g → ∀ Q : Bool → Hp → Prop, (∀ H', Ex H H' → Q b H') → tt σ H Q
/-- operations by values -/
def RR (r : R2) (f : D → D → Option D) : Prop := ∀ x y d, f x y = some d → ∀ (O : Addr → Prop) H v u, (∀ a, O a → Lv H a) → Rp K O H v x → Rp K O H u y → ∀ Q : VK, (∀ w H', Ex H H' → Rp K O H' w d → Q w H') → r v u H Q
def RU (r : V → Hp → VK → Prop) (f : D → Option D) : Prop := ∀ x d, f x = some d → ∀ (O : Addr → Prop) H v, (∀ a, O a → Lv H a) → Rp K O H v x → ∀ Q : VK, (∀ w H', Ex H H' → Rp K O H' w d → Q w H') → r v H Q
def RC (r : List V → Hp → VK → Prop) (f : List D → Option D) : Prop := ∀ xs d, f xs = some d → ∀ (O : Addr → Prop) H vs, (∀ a, O a → Lv H a) → RpA K O H vs xs → ∀ Q : VK, (∀ w H', Ex H H' → Rp K O H' w d → Q w H') → r vs H Q
end

section
variable {K : PySem.W.Frag} {ta tb tc te : TE} {a b c : DF} {tt tu : TT} {t u : DTF}
theorem er_var (i : Nat) : ER K (tVar i) (dVar i) := fun g d h H0 Oc pins ow σ H R Q q => by
  unfold dVar at h
  split at h
  · rename_i d' e
    cases h
    obtain ⟨v, h1, h2⟩ := R.val i d e
    exact ⟨v, h1, q v H (Evl.Ex.refl H) h2⟩
  · cases h
theorem er_int {i : Int} : ER K (tC (.int i)) (dC (.int i)) := fun g d h H0 Oc pins ow σ H R Q q => by cases h; exact q _ H (Evl.Ex.refl H) (.int i)
theorem er_bl {i : Bool} : ER K (tC (.bl i)) (dC (.bl i)) := fun g d h H0 Oc pins ow σ H R Q q => by cases h; exact q _ H (Evl.Ex.refl H) (.bl i)
theorem er_str {i : Str} : ER K (tC (.str i)) (dC (.str i)) := fun g d h H0 Oc pins ow σ H R Q q => by cases h; exact q _ H (Evl.Ex.refl H) (.str i)
theorem er_non : ER K (tC .non) (dC .non) := fun g d h H0 Oc pins ow σ H R Q q => by cases h; exact q _ H (Evl.Ex.refl H) .non
theorem er_ty {n : String} : ER K (tC (.ty n)) (dC (.ty n)) := fun g d h H0 Oc pins ow σ H R Q q => by cases h; exact q _ H (Evl.Ex.refl H) (.ty n)
theorem er_cls {C : Addr} : ER K (tC (.ref C)) (dC (.cls C)) := fun g d h H0 Oc pins ow σ H R Q q => by cases h; exact q _ H (Evl.Ex.refl H) (.cls C)
theorem er_2 {r : R2} {f : D → D → Option D} (hf : RR K r f) (ha : ER K ta a) (hb : ER K tb b) : ER K (tOp r ta tb) (d2 f a b) := fun g d h H0 Oc pins ow σ H R Q q => by
  unfold d2 at h
  cases ea : a g with
  | none => rw [ea] at h; cases h
  | some x =>
    rw [ea] at h
    cases eb : b g with
    | none => simp [eb] at h
    | some y =>
      simp only [Option.bind_some, eb] at h
      refine ha g x ea H0 Oc pins ow σ H R _ fun v H1 e1 r1 => ?_
      refine hb g y eb H0 Oc pins ow σ H1 (R.grow e1) _ fun w H2 e2 r2 => ?_
      exact hf x y d h (OO Oc ow) H2 v w ((R.grow e1).grow e2).oo (r1.ex e2) r2 Q fun z H3 e3 r3 => q z H3 ((e1.trans e2).trans e3) r3
theorem er_1 {r : V → Hp → VK → Prop} {f : D → Option D} (hf : RU K r f) (ha : ER K ta a) : ER K (tUn r ta) (d1 f a) := fun g d h H0 Oc pins ow σ H R Q q => by
  unfold d1 at h
  cases ea : a g with
  | none => rw [ea] at h; cases h
  | some x =>
    rw [ea] at h
    refine ha g x ea H0 Oc pins ow σ H R _ fun v H1 e1 r1 => ?_
    exact hf x d h (OO Oc ow) H1 v (R.grow e1).oo r1 Q fun z H3 e3 r3 => q z H3 (e1.trans e3) r3
theorem ar_nil : AR K tNil aNil := fun g d h H0 Oc pins ow σ H R Q q => by cases h; exact q _ H (Evl.Ex.refl H) .nil
theorem ar_cons {tr : TA} {r : DAF} (ha : ER K ta a) (hr : AR K tr r) : AR K (tCons ta tr) (aCons a r) := fun g d h H0 Oc pins ow σ H R Q q => by
  unfold aCons at h
  cases ea : a g with
  | none => rw [ea] at h; cases h
  | some x =>
    rw [ea] at h
    cases eb : r g with
    | none => simp [eb] at h
    | some y =>
      simp only [Option.bind_some, eb] at h
      cases h
      refine ha g x ea H0 Oc pins ow σ H R _ fun v H1 e1 r1 => ?_
      refine hr g y eb H0 Oc pins ow σ H1 (R.grow e1) _ fun w H2 e2 r2 => ?_
      exact q _ H2 (e1.trans e2) (.cons (r1.ex e2) r2)
theorem er_n {r : List V → Hp → VK → Prop} {f : List D → Option D} {tr : TA} {s : DAF} (hf : RC K r f) (ha : AR K tr s) : ER K (tCB r tr) (dN f s) := fun g d h H0 Oc pins ow σ H R Q q => by
  unfold dN at h
  cases ea : s g with
  | none => rw [ea] at h; cases h
  | some x =>
    rw [ea] at h
    refine ha g x ea H0 Oc pins ow σ H R _ fun v H1 e1 r1 => ?_
    exact hf x d h (OO Oc ow) H1 v (R.grow e1).oo r1 Q fun z H3 e3 r3 => q z H3 (e1.trans e3) r3
theorem new_not {O : Addr → Prop} {H : Hp} {p : Addr} (o : ∀ a, O a → Lv H a) (h : H p = none) : ¬ O p := fun z => (o p z).1 h
theorem er_tup {tr : TA} {s : DAF} (ha : AR K tr s) : ER K (tTup tr) (dN mkTup s) := fun g d h H0 Oc pins ow σ H R Q q => by
  unfold dN at h
  cases ea : s g with
  | none => rw [ea] at h; cases h
  | some x =>
    rw [ea] at h
    unfold mkTup at h
    simp only [Option.bind_some] at h
    split at h
    · rename_i hl
      cases h
      refine ha g x ea H0 Oc pins ow σ H R _ fun v H1 e1 r1 => ⟨by rw [r1.len]; exact Evl.sz_of hl, fun p hp => ?_⟩
      have e2 := Evl.Ex.new (o := .tup v) hp
      exact q _ _ (e1.trans e2) (.tup (new_not (R.grow e1).oo hp) upd_same (r1.ex e2))
    · cases h
theorem er_lst {tr : TA} {s : DAF} (ha : AR K tr s) : ER K (tLst tr) (dN mkLst s) := fun g d h H0 Oc pins ow σ H R Q q => by
  unfold dN at h
  cases ea : s g with
  | none => rw [ea] at h; cases h
  | some x =>
    rw [ea] at h
    unfold mkLst at h
    simp only [Option.bind_some] at h
    split at h
    · rename_i hl
      cases h
      refine ha g x ea H0 Oc pins ow σ H R _ fun v H1 e1 r1 => ⟨by rw [r1.len]; exact Evl.sz_of hl, fun p hp => ?_⟩
      have e2 := Evl.Ex.new (o := .lst v) hp
      exact q _ _ (e1.trans e2) (.lst (new_not (R.grow e1).oo hp) upd_same (r1.ex e2))
    · cases h

/-! ### tests -/
def truD : D → Option Bool
  | .non => some false
  | .bl b => some b
  | .int i => some (i != 0)
  | .str s => if s.length ≤ 100000 then some ((s.length : Int) != 0) else none
  | .lst ds => some (!ds.isEmpty)
  | .tup ds => some (!ds.isEmpty)
  | _ => none
theorem RpA.isEmpty {O : Addr → Prop} {H : Hp} {vs : List V} {ds : List D} (r : RpA K O H vs ds) : vs.isEmpty = ds.isEmpty := by
  cases r <;> rfl
theorem tru_rp {O : Addr → Prop} {H : Hp} {v : V} {d : D} {b : Bool} (r : Rp K O H v d) (h : truD d = some b) : TruV K v H b := by
  cases r with
  | non => cases h; exact rfl
  | bl b => cases h; exact rfl
  | int i => cases h; exact rfl
  | str s =>
    have h : (if s.length ≤ 100000 then some ((s.length : Int) != 0) else none) = some b := h
    split at h
    · rename_i hl
      cases h
      exact ⟨Evl.sz_of hl, rfl⟩
    · cases h
  | lst n e x => cases h; exact .inl ⟨_, .of e, by rw [x.isEmpty]⟩
  | tup n e x => cases h; exact .inr (.inl ⟨_, .of e, by rw [x.isEmpty]⟩)
  | dct n e x r => cases h
  | scr n e => cases h
  | kscr e => cases h
  | ins n e x => cases h
  | ty n => cases h
  | cls C => cases h
/-- a test by the truth of a value -/
def tTru (K : PySem.W.Frag) (te : TE) : TT := fun σ H Q => te σ H fun x H1 => ∃ k, TruV K x H1 k ∧ Q k H1
def tDt (f : D → Option Bool) (a : DF) : DTF := fun g => (a g).bind f
theorem tr_tru (ha : ER K ta a) : TR K (tTru K ta) (tDt truD a) := fun g d h H0 Oc pins ow σ H R Q q => by
  unfold tDt at h
  cases ea : a g with
  | none => rw [ea] at h; cases h
  | some x =>
    rw [ea] at h
    exact ha g x ea H0 Oc pins ow σ H R _ fun v H1 e1 r1 => ⟨d, tru_rp r1 h, q H1 e1⟩
def blD : D → Option Bool
  | .bl b => some b
  | _ => none
theorem tr_test (ha : ER K ta a) : TR K (tTest ta) (tDt blD a) := fun g d h H0 Oc pins ow σ H R Q q => by
  unfold tDt at h
  cases ea : a g with
  | none => rw [ea] at h; cases h
  | some x =>
    rw [ea] at h
    cases x <;> first | cases h | skip
    exact ha g _ ea H0 Oc pins ow σ H R _ fun v H1 e1 r1 => by
      cases r1
      exact ⟨_, rfl, q H1 e1⟩
def dAndT (a b : DTF) : DTF := fun g => (a g).bind fun x => if x = true then b g else some false
def dOrT (a b : DTF) : DTF := fun g => (a g).bind fun x => if x = true then some true else b g
def dNotT (a : DTF) : DTF := fun g => (a g).map (!·)
theorem tr_and (ha : TR K tt t) (hb : TR K tu u) : TR K (tAnd tt tu) (dAndT t u) := fun g d h H0 Oc pins ow σ H R Q q => by
  unfold dAndT at h
  cases ea : t g with
  | none => rw [ea] at h; cases h
  | some x =>
    rw [ea] at h
    simp only [Option.bind_some] at h
    refine ha g x ea H0 Oc pins ow σ H R _ fun H1 e1 => ?_
    cases x with
    | true =>
      rw [if_pos rfl] at h
      show tu σ H1 Q
      exact hb g d h H0 Oc pins ow σ H1 (R.grow e1) Q fun H2 e2 => q H2 (e1.trans e2)
    | false =>
      rw [if_neg Bool.false_ne_true] at h
      cases h
      show Q false H1
      exact q H1 e1
theorem tr_or (ha : TR K tt t) (hb : TR K tu u) : TR K (tOr tt tu) (dOrT t u) := fun g d h H0 Oc pins ow σ H R Q q => by
  unfold dOrT at h
  cases ea : t g with
  | none => rw [ea] at h; cases h
  | some x =>
    rw [ea] at h
    simp only [Option.bind_some] at h
    refine ha g x ea H0 Oc pins ow σ H R _ fun H1 e1 => ?_
    cases x with
    | true =>
      rw [if_pos rfl] at h
      cases h
      show Q true H1
      exact q H1 e1
    | false =>
      rw [if_neg Bool.false_ne_true] at h
      show tu σ H1 Q
      exact hb g d h H0 Oc pins ow σ H1 (R.grow e1) Q fun H2 e2 => q H2 (e1.trans e2)
theorem tr_not (ha : TR K tt t) : TR K (tNot tt) (dNotT t) := fun g d h H0 Oc pins ow σ H R Q q => by
  unfold dNotT at h
  cases ea : t g with
  | none => rw [ea] at h; cases h
  | some x =>
    rw [ea] at h
    cases h
    exact ha g x ea H0 Oc pins ow σ H R _ fun H1 e1 => q H1 e1
/-- and, or, not as values (bools) -/
def dAndV (a b : DF) : DF := fun g => (a g).bind fun x => match x with
  | .bl true => b g
  | .bl false => some (.bl false)
  | _ => none
def dOrV (a b : DF) : DF := fun g => (a g).bind fun x => match x with
  | .bl true => some (.bl true)
  | .bl false => b g
  | _ => none
def notD : D → Option D
  | .bl b => some (.bl (!b))
  | _ => none
theorem er_and (ha : ER K ta a) (hb : ER K tb b) : ER K (tAndV ta tb) (dAndV a b) := fun g d h H0 Oc pins ow σ H R Q q => by
  unfold dAndV at h
  cases ea : a g with
  | none => rw [ea] at h; cases h
  | some x =>
    rw [ea] at h
    simp only [Option.bind_some] at h
    cases x <;> first | cases h | skip
    rename_i k
    refine ha g _ ea H0 Oc pins ow σ H R _ fun v H1 e1 r1 => ?_
    cases r1
    refine ⟨k, rfl, ?_⟩
    cases k with
    | true =>
      show tb σ H1 Q
      exact hb g d h H0 Oc pins ow σ H1 (R.grow e1) Q fun v H2 e2 => q v H2 (e1.trans e2)
    | false =>
      cases h
      show Q (.bl false) H1
      exact q _ H1 e1 (.bl false)
theorem er_or (ha : ER K ta a) (hb : ER K tb b) : ER K (tOrV ta tb) (dOrV a b) := fun g d h H0 Oc pins ow σ H R Q q => by
  unfold dOrV at h
  cases ea : a g with
  | none => rw [ea] at h; cases h
  | some x =>
    rw [ea] at h
    simp only [Option.bind_some] at h
    cases x <;> first | cases h | skip
    rename_i k
    refine ha g _ ea H0 Oc pins ow σ H R _ fun v H1 e1 r1 => ?_
    cases r1
    refine ⟨k, rfl, ?_⟩
    cases k with
    | true =>
      cases h
      show Q (.bl true) H1
      exact q _ H1 e1 (.bl true)
    | false =>
      show tb σ H1 Q
      exact hb g d h H0 Oc pins ow σ H1 (R.grow e1) Q fun v H2 e2 => q v H2 (e1.trans e2)
theorem er_not (ha : ER K ta a) : ER K (tNotV ta) (d1 notD a) := fun g d h H0 Oc pins ow σ H R Q q => by
  unfold d1 at h
  cases ea : a g with
  | none => rw [ea] at h; cases h
  | some x =>
    rw [ea] at h
    simp only [Option.bind_some] at h
    cases x <;> first | cases h | skip
    rename_i k
    refine ha g _ ea H0 Oc pins ow σ H R _ fun v H1 e1 r1 => ?_
    cases r1
    exact ⟨k, rfl, q _ H1 e1 (.bl _)⟩
/-- x if c else y -/
def dIf (t : DTF) (a b : DF) : DF := fun g => (t g).bind fun x => if x = true then a g else b g
theorem er_if (ht : TR K tt t) (ha : ER K ta a) (hb : ER K tb b) : ER K (tIf tt ta tb) (dIf t a b) := fun g d h H0 Oc pins ow σ H R Q q => by
  unfold dIf at h
  cases ea : t g with
  | none => rw [ea] at h; cases h
  | some x =>
    rw [ea] at h
    simp only [Option.bind_some] at h
    refine ht g x ea H0 Oc pins ow σ H R _ fun H1 e1 => ?_
    cases x with
    | true =>
      rw [if_pos rfl] at h
      show ta σ H1 Q
      exact ha g d h H0 Oc pins ow σ H1 (R.grow e1) Q fun v H2 e2 => q v H2 (e1.trans e2)
    | false =>
      rw [if_neg Bool.false_ne_true] at h
      show tb σ H1 Q
      exact hb g d h H0 Oc pins ow σ H1 (R.grow e1) Q fun v H2 e2 => q v H2 (e1.trans e2)
/-- a < b < c -/
def dChain (f f' : D → D → Option D) (a b c : DF) : DF := fun g => (a g).bind fun x => (b g).bind fun y => (f x y).bind fun z => match z with
  | .bl true => (c g).bind fun w => f' y w
  | .bl false => some (.bl false)
  | _ => none
theorem er_chain {r r' : R2} {f f' : D → D → Option D} (hf : RR K r f) (hf' : RR K r' f') (ha : ER K ta a) (hb : ER K tb b) (hc : ER K tc c) : ER K (tChain r r' ta tb tc) (dChain f f' a b c) := fun g d h H0 Oc pins ow σ H R Q q => by
  unfold dChain at h
  cases ea : a g with
  | none => rw [ea] at h; cases h
  | some x =>
    rw [ea] at h
    cases eb : b g with
    | none => simp [eb] at h
    | some y =>
      simp only [Option.bind_some, eb] at h
      cases ef : f x y with
      | none => rw [ef] at h; cases h
      | some z =>
        rw [ef] at h
        simp only [Option.bind_some] at h
        cases z <;> first | cases h | skip
        rename_i k
        refine ha g x ea H0 Oc pins ow σ H R _ fun v H1 e1 r1 => ?_
        refine hb g y eb H0 Oc pins ow σ H1 (R.grow e1) _ fun w H2 e2 r2 => ?_
        refine hf x y _ ef (OO Oc ow) H2 v w ((R.grow e1).grow e2).oo (r1.ex e2) r2 _ fun z H3 e3 r3 => ?_
        cases r3
        refine ⟨k, rfl, ?_⟩
        cases k with
        | false =>
          cases h
          show Q (.bl false) H3
          exact q _ H3 ((e1.trans e2).trans e3) (.bl false)
        | true =>
          cases ec : c g with
          | none => simp [ec] at h
          | some w' =>
            simp only [ec, Option.bind_some] at h
            show tc σ H3 fun w' H4 => r' w w' H4 Q
            refine hc g w' ec H0 Oc pins ow σ H3 (((R.grow e1).grow e2).grow e3) _ fun u' H4 e4 r4 => ?_
            exact hf' y w' d h (OO Oc ow) H4 w u' ((((R.grow e1).grow e2).grow e3).grow e4).oo ((r2.ex e3).ex e4) r4 Q fun z H5 e5 r5 => q z H5 ((((e1.trans e2).trans e3).trans e4).trans e5) r5
/-- peeking: a test, or a flat value, may look at what is owned -/
def peekT (t : DTF) : DTF := fun g => t (frzAll g)
theorem tr_peek (ht : TR K tt t) : TR K tt (peekT t) := fun g d h H0 Oc pins ow σ H R Q q => ht _ d h H0 Oc _ noOw σ H R.frzAll Q q
def peekE (a : DF) : DF := fun g => match a (frzAll g) with
  | some d => if d.flat = true then some d else a g
  | none => none
theorem er_peek (ha : ER K ta a) : ER K ta (peekE a) := fun g d h H0 Oc pins ow σ H R Q q => by
  unfold peekE at h
  split at h
  · rename_i d' e
    split at h
    · rename_i f
      cases h
      exact ha _ d e H0 Oc _ noOw σ H R.frzAll Q fun v H' e' r => q v H' e' (r.flat f)
    · exact ha g d h H0 Oc pins ow σ H R Q q
  · cases h
end
end Zk
end

section
set_option Elab.async false
set_option linter.all false
set_option maxRecDepth 100000
set_option maxHeartbeats 4000000
/-! min, sorted, enumerate over tuples -/
namespace TS
open PySem PySem.Spec PySem.Calls PyProof.Rows L2
section
variable {prog : Program} {w : World} {A : Around} {E : Value → Shared → Prop} {s : Shared} {t : Addr}
theorem min_intTup {xs : Array (Int × Tok)} {Q : Value → Shared → Prop} (hh : A.handled = none) (hl : s.heap.IsTuple t (intItems xs)) (hne : 0 < xs.size)
    (h : ∀ v h' tk, (intItems xs)[argBest (fun i j => decide (numAt xs i < numAt xs j)) (xs.size - 1)]? = some v → (∀ b o, s.heap.get? b = some o → h'.get? b = some o) → Q v { s with heap := h', toks := tk }) :
    wpAny (model prog w) A (call (.builtin "min") [.ref t]) Q E s := by
  obtain ⟨o, ho, _⟩ := id hl
  have hlt : t < s.heap.objs.size := Heap.lt_size ho
  refine call_min_walk (wpAny_pyIter_tuple hl ?_)
  refine ⟨_, _, _, _, _, _, _, rfl, Walks.tuple (A := A.in1) hh _ t (Nat.ne_of_lt hlt) (intItems xs), ⟨⟨_, Heap.get?_push_size _ rfl, rfl, rfl⟩, hl.push _⟩, fun b hb => ?_, by simpa [intItems] using hne, CmpOf.ints_lt (numAt xs) (fun _ _ => intItems_at), fun v h' tk hP hk => ?_⟩
  · show b < (s.heap.push _).objs.size
    rw [Heap.size_push]
    rcases List.mem_cons.mp hb with rfl | hb
    · exact Nat.lt_succ_self _
    · rcases List.mem_cons.mp hb with rfl | hb
      · exact Nat.lt_succ_of_lt hlt
      · cases hb
  · refine h v h' tk (by simpa [intItems] using hP) fun b o e => hk b o (fun hm => ?_) (Heap.get?_push_of_some _ e)
    rcases List.mem_cons.mp hm with e1 | hm
    · exact absurd (e1 ▸ Heap.lt_size e) (Nat.lt_irrefl _)
    · cases hm
theorem min_rawT {its : List Value} {ns : List Int} {Q : Value → Shared → Prop} (hh : A.handled = none) (hl : s.heap.IsTuple t its.toArray) (hi : IntsAre its ns) (hne : 0 < ns.length)
    (h : ∀ h' tk M t', (∀ b o, s.heap.get? b = some o → h'.get? b = some o) → M ∈ ns → (∀ a, a ∈ ns → M ≤ a) → Q (.int M t') { s with heap := h', toks := tk }) : wpAny (model prog w) A (call (.builtin "min") [.ref t]) Q E s := by
  obtain ⟨xs, e⟩ := hi.allInts.items
  have hn : numsOf (intItems xs).toList = ns := by rw [← e]; exact hi.numsOf
  rw [nums_intItems] at hn
  subst hn
  rw [e] at hl
  have hsz : 0 < xs.size := by simpa using hne
  refine min_intTup hh hl hsz fun v h' tk hv hk => ?_
  obtain ⟨t, rfl⟩ := intItems_at hv
  obtain ⟨h1, h2⟩ := argBest_lt (numAt xs) (xs.size - 1)
  refine h h' tk _ t hk ?_ fun a ha => ?_
  · rw [numAt_eq]; exact PySem.getD_mem (by rw [List.length_map, Array.length_toList]; omega)
  · obtain ⟨j, hj, rfl⟩ := mem_getD ha
    rw [List.length_map, Array.length_toList] at hj
    rw [← numAt_eq]; exact h2 j (by omega)
end
section
variable {X : Cx}
def rMinT (K : PySem.W.Frag) : List V → Hp → VK → Prop := fun vs H Q => ∃ (a : Addr) (ns : List Int), vs = [V.ref a] ∧ SqT K H a (ns.map V.int) ∧ 0 < ns.length ∧ ∀ m, m ∈ ns → (∀ y, y ∈ ns → m ≤ y) → Q (.int m) H
theorem tupOf {h : Heap} {a : Addr} {its : Array Value} (x : IsTup h a its) : h.IsTuple a its := by
  obtain ⟨o, ho, hc, n, hd⟩ := x
  exact ⟨o, ho, hc, n, hd⟩
theorem cr_minT (hc : X.calm = true) : CallR X (.builtin "min") (rMinT X.K) := by
  intro pins s σ H vs us Q I r h
  obtain ⟨a, ns, rfl, hs, hne, q⟩ := h
  obtain ⟨its, rv, hl, _⟩ := I.tuple hs
  rw [Vals.ref1 r]
  exact min_rawT (I.ok.hd hc) (tupOf hl) rv.ints hne fun h' tk m t' hk h1 h2 => ⟨.int _, H, I.kept hk, ⟨_, rfl⟩, q m h1 h2⟩
end
end TS
namespace TS
open PySem PySem.Spec PySem.Calls PyProof.Rows L2 SrtO
section
variable {prog : Program} {w : World} {A : Around} {E : Value → Shared → Prop} {s : Shared}
/-- a tuple is sorted: first what was collected (h1), then the new list behind it -/
theorem sorted_tupO {l : Addr} {vs : List Value} {ltv : Value → Value → Bool} {Q : Value → Shared → Prop} (O : Swo ltv) (hl : IsTup s.heap l vs.toArray) (hz : vs.length ≤ sizeLine)
    (hS : 2 ≤ vs.length → ∀ (h₁ : Heap) (a : Addr), h₁.get? a = some (seqObj "list" vs.toArray 0) → (∀ b o, s.heap.get? b = some o → b ≠ a ∧ h₁.get? b = some o) → SortableO prog w A.in1.in1 { s with heap := h₁ } a vs ltv)
    (h : ∀ (out : List Value) (h1 h2 : Heap) n, Srtd ltv out → Stb ltv out vs → (∀ b o, s.heap.get? b = some o → h1.get? b = some o) → (∀ b o, h1.get? b = some o → h2.get? b = some o) →
      h2.get? h1.objs.size = some { cls := .type "list", data := .seq out.toArray n } → Q (.ref h1.objs.size) { s with heap := h2 }) :
    wpAny (model prog w) A (call (.builtin "sorted") [.ref l]) Q E s := by
  obtain ⟨o, ho, hc, n, hd⟩ := id hl
  refine Calls.call_function_entry kind_sorted plain_sorted entry_sorted (args_sorted1 _) ?_
  unfold Builtin.«sorted»
  refine wpAny_bind (m := checkCount "sorted" 1 1 _) (wpAny_pure (wpAny_bind (wpAny_collect_seq l (.inr rfl) ho hc hd (fun h1 k1 => ?_) (by rw [List.size_toArray]; exact hz))))
  refine wpAny_bind (wpAny_newList ?_ hz)
  have at1 : (h1.push (seqObj "list" vs.toArray 0)).get? h1.objs.size = some (seqObj "list" vs.toArray 0) := Heap.get?_push_size _ rfl
  have kp : ∀ b o, h1.get? b = some o → b ≠ h1.objs.size ∧ (h1.push (seqObj "list" vs.toArray 0)).get? b = some o := fun b o q => ⟨Nat.ne_of_lt (Heap.lt_size q), Heap.get?_push_of_some _ q⟩
  refine wpAny_bind (wpAny_holding (wpAny_call_entry slot_list_sort ⟨_, at1, rfl⟩ entry_list_sort (list_sort_ord O at1 hz (fun h2 => hS h2 _ _ at1 fun b o q => kp b o (k1 b o q)) fun out hs hb => ⟨_, rfl, ?_⟩) (args_list_sort _)))
  obtain ⟨ep, he'⟩ := PyProof.Rows.sortedHeap_at (vs := vs) (out := out.toArray) at1
  refine wpAny_pure ⟨_, rfl, h out h1 _ ep hs hb k1 (fun b o q => ?_) he'⟩
  rw [PyProof.Rows.sortedHeap_old (kp b o q).1 (Heap.lt_size (kp b o q).2)]
  exact (kp b o q).2
end
/-- sorted(t), t a tuple of ints -/
def rSortT (K : PySem.W.Frag) : List V → Hp → VK → Prop := fun vs H Q => ∃ (a : Addr) (ns : List Int), vs = [V.ref a] ∧ SqT K H a (ns.map V.int) ∧
  ∀ (ks : List Int) (p : Addr), ks.Perm ns → ks.Pairwise (· ≤ ·) → H p = none → Q (.ref p) (upd H p (.lst (ks.map V.int)))
theorem cr_sortT {X : Cx} : CallR X (.builtin "sorted") (rSortT X.K) := by
  intro pins s σ H vs us Q I r h
  obtain ⟨a, ns, rfl, hs, q⟩ := h
  obtain ⟨its, rv, hl, hz⟩ := I.tuple hs
  rw [Vals.ref1 r]
  have hi := rv.ints
  refine sorted_tupO swo_int hl (by rw [← rv.length]; exact hz) (fun h2 h₁ a' _ _ => ints_sortable hi h2) fun out h1 h2 n o1 o2 k1 k2 hn => ?_
  obtain ⟨z1, z2, z3⟩ := ints_out hi o1 o2
  have I1 : Inv X pins σ H { s with heap := h1 } := I.kept (t' := s.toks) k1
  have hlen : ((out.map iv).map V.int).length ≤ sizeLine := by
    rw [List.length_map, z2.length_eq, ← List.length_map (f := V.int)]
    exact hz
  exact ⟨.ref _, _, I1.laid (t' := s.toks) (o := .lst ((out.map iv).map V.int)) k2 (Nat.le_refl _) ⟨hlen, out, n, vals_of_ints z1, hn⟩, rfl, q _ _ z2 z3 (I1.hok.fresh (Nat.le_refl _))⟩
/-! ### enumerate(a tuple) -/
theorem meets_enum1 {v : Value} {o : Obj} {H : Heap → Prop} (B : Begins v o H) :
    Meets (Builtin.«enumerate.__new__» ⟨[.type "enumerate", v], []⟩) (fun _ R s => H s.heap ∧
      R (.ok (.ret (.ref (s.heap.push o).objs.size))) { s with heap := (s.heap.push o).push { cls := .type "enumerate", data := .fields #[.none, .bool false, .ref s.heap.objs.size, rawInt 0, .none, .none] } }) :=
  .of_wp fun prog w A R s h => by
    obtain ⟨hp, g, d, tk, os⟩ := s; obtain ⟨h1, h⟩ := h
    have hsub := sub_enumerate
    have q1 : ∀ {A' : Around} {E : Value → Shared → Prop} {Q : Value → Shared → Prop}, Q (.ref hp.objs.size) ⟨hp.push o, g, d, tk, os⟩ → wpAny (model prog w) A' (pyIter v) Q E ⟨hp, g, d, tk, os⟩ :=
      fun q => B.iter prog w _ _ ⟨hp, g, d, tk, os⟩ _ h1 q
    wp_walk using q1
    refine wpAny_stack_any fun st => wpAny_pure ?_
    split
    · rename_i c _ _ _ _ _
      cases (c == Value.type "enumerate")
      · wp_walk using q1
        exact ⟨_, rfl, h⟩
      · wp_walk using q1
        exact ⟨_, rfl, h⟩
    · wp_walk using q1
      exact ⟨_, rfl, h⟩
end TS
namespace TS
open PySem PySem.Spec PySem.Calls PyProof.Rows L2
section
variable {prog : Program} {w : World} {A : Around} {E : Value → Shared → Prop} {s : Shared}
theorem enum_endT {e it t : Addr} {items : Array Value} {i : Nat} {c : Int} {old : Value} {Q : Option Value → Shared → Prop} (hh : A.handled = none)
    (he : IsEnum s.heap e it c old) (hit : s.heap.IsTupleIter it t i) (ht : s.heap.IsTuple t items) (hx : items[i]? = none)
    (hQ : ∀ h', Heap.ExtBut it s.heap h' → Q none { s with heap := h' }) : wpAny (model prog w) A (pyNext (.ref e)) Q E s := by
  have hT : s.TypeIs (.ref e) "enumerate" := ⟨_, he, rfl⟩
  unfold pyNext
  refine wpAny_bind (wpAny_attempt (wpAny_callSpecial?_slot (name := Str.ofString "__next__") hT F.slot_enumerate_next
    (wpAny_call_entry F.slot_enumerate_next hT F.entry_enumerate_next ?_ (F.args_enumerate_next_1 _))))
  show wpAny _ _ (field (.ref e) 2 >>= _) _ _ _
  refine wpAny_bind (wpAny_field he rfl (x := .ref it) rfl (wpAny_bind (wpAny_nextOf_tuple_end (A := A.in1) hh hit ht hx fun h' x hk hc => ?_)))
  obtain ⟨o, ho, hc⟩ := hc
  exact wpAny_bind (wpAny_isInstance (T := "StopIteration") (b := true) ⟨o, ho, hc⟩ isSubtype_stop (wpAny_pure (hQ _ hk)))
theorem enum_startT {t : Addr} {items : Array Value} {Q : Value → Shared → Prop} (hL : s.heap.IsTuple t items)
    (h : ∀ h', IsEnum h' (s.heap.objs.size + 1) s.heap.objs.size 0 .none → h'.IsTupleIter s.heap.objs.size t 0 → (∀ b o, s.heap.get? b = some o → h'.get? b = some o) → Q (.ref (s.heap.objs.size + 1)) { s with heap := h' }) :
    wpAny (model prog w) A (call (.type "enumerate") [.ref t]) Q E s := by
  refine callType_new F.called_enumerate (by decide) (F.typeCall_enumerate_1 _) (F.newCall_enumerate_1 _) (fun obj => F.args_object_init_2 obj _) F.entry_enumerate_new (meets_enum1 (begins_tuple t items)) ⟨hL, ?_⟩
  have hz : (s.heap.push { cls := .type "tuple_iterator", data := .fields #[.ref t, .int 0 0] }).objs.size = s.heap.objs.size + 1 := Heap.size_push ..
  show _ ∧ _
  rw [hz]
  have he : IsEnum ((s.heap.push { cls := .type "tuple_iterator", data := .fields #[.ref t, .int 0 0] }).push { cls := .type "enumerate", data := .fields #[.none, .bool false, .ref s.heap.objs.size, rawInt 0, .none, .none] }) (s.heap.objs.size + 1) s.heap.objs.size 0 .none := by
    have q := Heap.get?_push_size (s.heap.push { cls := .type "tuple_iterator", data := .fields #[.ref t, .int 0 0] }) (o := { cls := .type "enumerate", data := .fields #[.none, .bool false, .ref s.heap.objs.size, rawInt 0, .none, .none] }) rfl
    rw [hz] at q; exact q
  exact ⟨⟨_, he, rfl⟩, h _ he ⟨_, Heap.get?_push_of_some _ (Heap.get?_push_size _ rfl), rfl, rfl⟩ fun b o x => Heap.get?_push_of_some _ (Heap.get?_push_of_some _ x)⟩
end
def IteT (K : PySem.W.Frag) (a : Addr) : It :=
  ⟨fun i H => ∃ (xs : List V) (x : V), SqT K H a xs ∧ xs[i]? = some x, fun i H v H' => ∃ T x, v = .ref T ∧ H T = none ∧ H' = upd H T (.tup [.int (i : Nat), x]) ∧ ∀ xs, SqT K H a xs → xs[i]? = some x, fun i H => ∃ xs : List V, SqT K H a xs ∧ xs.length ≤ i⟩
theorem tup_off {h : Heap} {a b : Addr} {its : Array Value} {o : Obj} (p : IsTup h a its) (e : h.get? b = some o) (n : o.cls ≠ .type "tuple") : b ≠ a := fun z => by
  obtain ⟨o', ho, hc, _⟩ := p
  rw [z, ho] at e
  cases e
  exact n hc
theorem turn_enumT {P : Program} {w : World} {K : PySem.W.Frag} {elts : List Expr} {kk : Nat} {tpos : Pos} (a e it : Addr) :
    Turn P w K (.Tuple elts kk tpos) (IteT K a) [e, it] e (fun i h => (∃ old, IsEnum h e it ((i : Nat) : Int) old) ∧ h.IsTupleIter it a i ∧ e ≠ it) where
  mem := List.mem_cons_self
  obj := fun i h st b hb => by
    obtain ⟨⟨old, he⟩, ⟨o, ho, hc, hd⟩, _⟩ := st
    rcases List.mem_cons.mp hb with z | z
    · subst z; exact ⟨_, he, fun v q => nomatch q⟩
    · cases List.mem_singleton.mp z; exact ⟨o, ho, fun v q => (by rw [hd] at q; cases q)⟩
  keep := fun i h h' st k => by
    obtain ⟨⟨old, he⟩, hi, hne⟩ := st
    exact ⟨⟨old, k e (by simp) _ he⟩, hi.at fun o q => k it (by simp) o q, hne⟩
  item := by
    intro X hP hw hK hc i pins s σ H E I hf st hg
    subst hP hw hK
    obtain ⟨⟨old, he⟩, hit, hne⟩ := st
    obtain ⟨xs, x, hq, hx⟩ := hg
    obtain ⟨its, rv, p, hz⟩ := I.tuple hq
    obtain ⟨u, hu, ru⟩ := rv.get hx
    have hel : e < s.heap.objs.size := Heap.lt_size he
    obtain ⟨oi, hoi, hci, hdi⟩ := id hit
    have hil : it < s.heap.objs.size := Heap.lt_size hoi
    have nit : it ≠ a := tup_off p hoi (by rw [hci]; decide)
    have ne : e ≠ a := tup_off p he (fun z => by injection z with z; exact absurd z (by decide))
    have D := Draws.tuple (prog := X.prog) (w := X.w) (A := X.A.in1) (I.ok.hd hc) it a (Ne.symm nit) its.toArray
    have hlt : i < its.toArray.size := by rw [List.size_toArray]; exact (List.getElem?_eq_some_iff.mp hu).1
    refine wpAny_pyNext_enum_itemC D he ⟨hit, tupOf p⟩ hlt hne (by simp [hne, ne]) fun y h1 tk hy ho st1 hT hsz hk => ?_
    have hy' : its[i]? = some y := by simpa using hy
    rw [hu] at hy'
    cases hy'
    refine ⟨_, rfl, wpAny_letOwnedTupleGo_enum (s := { s with heap := h1, toks := tk + 1 }) ho fun h2 he2 sb => ?_⟩
    have hT2 : h2.get? s.heap.objs.size = some { cls := .type "tuple", data := .seq #[.int i tk, u] } := (sb.2 _ (Nat.ne_of_gt hel)).trans hT
    have new : ObjOk X.prog X.w (upd H s.heap.objs.size (.tup [.int (i : Nat), x])) h2 s.heap.objs.size (.tup [.int (i : Nat), x]) :=
      ⟨Nat.le_of_ble_eq_true rfl, [.int i tk, u], .cons ⟨_, rfl⟩ (.cons ru .nil), ⟨_, hT2, rfl, _, rfl⟩⟩
    have I1 : Inv X pins σ (upd H s.heap.objs.size (.tup [.int (i : Nat), x])) { s with heap := h2, toks := tk + 1 } :=
      I.turnedNew (ch := [e, it]) (fun b ob hb q => (sb.2 b (fun z => hb (by rw [z]; simp))).trans (hk b ob (fun z => hb (by rw [z]; simp)) (fun z => hb (by rw [z]; simp)) q)) hf (Nat.le_refl _) new
    refine ⟨.ref s.heap.objs.size, _, I1, rfl, ⟨_, x, rfl, I.hok.fresh (Nat.le_refl _), rfl, fun ys hy => ?_⟩, ⟨⟨u, ?_⟩, st1.1.at fun o q => (sb.2 it (Ne.symm hne)).trans q, hne⟩, fun b hb => ?_⟩
    · rw [I.tuple_inj hy hq]; exact hx
    · have e1 : ((i + 1 : Nat) : Int) = (i : Int) + 1 := by omega
      rw [e1]; exact he2
    · have hb' : b < s.heap.objs.size := by
        rcases List.mem_cons.mp hb with z | z
        · rw [z]; exact hel
        · rw [List.mem_singleton.mp z]; exact hil
      rw [upd_ne (Nat.ne_of_lt hb')]
      exact (hf b hb).1
  done := by
    intro X hP hw hK hc i pins s σ H E I hf st hg
    subst hP hw hK
    obtain ⟨⟨old, he⟩, hit, hne⟩ := st
    obtain ⟨xs, hq, hx⟩ := hg
    obtain ⟨its, rv, p, hz⟩ := I.tuple hq
    obtain ⟨f0, f1, f2, f3, f4, f5⟩ := hf it (by simp)
    obtain ⟨oi, hoi, hci, hdi⟩ := id hit
    have nit : it ≠ a := tup_off p hoi (by rw [hci]; decide)
    have hl := rv.length
    have hT : s.TypeIs (.ref e) "enumerate" := ⟨_, he, rfl⟩
    have hh := I.ok.hd hc
    exact enum_endT hh he hit (tupOf p) (by rw [List.getElem?_toArray, List.getElem?_eq_none_iff]; omega) fun h' eb => ⟨rfl, I.turned (t' := s.toks) (fun b o hb q => eb b o hb q) f0 f1 f3 f4 f5⟩
  self := fun A i s Q E st h => let ⟨⟨_, he⟩, _⟩ := st; wpAny_pyIter_enum he h
/-- enumerate(xs), a list or a tuple -/
def iEnumA (K : PySem.W.Frag) (ta : TA) : TI := fun σ H R => ta σ H fun vs H1 => (∃ a xs, vs = [.ref a] ∧ SqL K H1 a xs ∧ R (Ite K a) H1) ∨ ∃ a xs, vs = [.ref a] ∧ SqT K H1 a xs ∧ R (IteT K a) H1
theorem pi_enumA {X : Cx} {e : Expr} {ta : TA} {p pos tpos : Pos} {elts : List Expr} {kk : Nat} (hg : Gl X "enumerate") (hm : X.mg "enumerate" = none) (ha : PA X [e] ta) (hs : starEach [e] X.env = [(false, eval e X.env)] := by rfl) :
    PI X (.Tuple elts kk tpos) (.Call (.Name "enumerate" p) [e] [] pos) (iEnumA X.K ta) := by
  refine ⟨fun pins s σ H R I h => ?_⟩
  refine Call_ (ld_blt I hg hm boot_enumerate (PyProof.Rows.callWith_type1 (thn (ha.run pos pins s σ H _ I h) fun us s1 ⟨vs, H1, I1, r1, q1⟩ => ?_) hs rfl))
  rcases q1 with ⟨a, xs, rfl, hq, q⟩ | ⟨a, xs, rfl, hq, q⟩
  · rw [Vals.ref1 r1]
    obtain ⟨its, rv, p', hz⟩ := I1.list hq
    refine call_enumerate_list p'.isList fun h' he hit hsz hk => wpAny_pyIter_enum he ?_
    have I2 : Inv X pins σ H1 { s1 with heap := h' } := I1.kept (t' := s1.toks) hk
    refine ⟨s1.heap.objs.size + 1, [s1.heap.objs.size + 1, s1.heap.objs.size], _, _, H1, rfl, I2, turn_enum a (s1.heap.objs.size + 1) s1.heap.objs.size, ⟨⟨.none, he⟩, hit, Nat.succ_ne_self _⟩, fun b hb => ?_, q⟩
    have hle : s1.heap.objs.size ≤ b := by
      rcases List.mem_cons.mp hb with z | z
      · rw [z]; exact Nat.le_add_right _ _
      · rw [List.mem_singleton.mp z]; exact Nat.le_refl _
    exact I1.fpOk hle (I1.hok.fresh hle)
  · rw [Vals.ref1 r1]
    obtain ⟨its, rv, p', hz⟩ := I1.tuple hq
    refine enum_startT (tupOf p') fun h' he hit hk => wpAny_pyIter_enum he ?_
    have I2 : Inv X pins σ H1 { s1 with heap := h' } := I1.kept (t' := s1.toks) hk
    refine ⟨s1.heap.objs.size + 1, [s1.heap.objs.size + 1, s1.heap.objs.size], _, _, H1, rfl, I2, turn_enumT a (s1.heap.objs.size + 1) s1.heap.objs.size, ⟨⟨.none, he⟩, hit, Nat.succ_ne_self _⟩, fun b hb => ?_, q⟩
    have hle : s1.heap.objs.size ≤ b := by
      rcases List.mem_cons.mp hb with z | z
      · rw [z]; exact Nat.le_add_right _ _
      · rw [List.mem_singleton.mp z]; exact Nat.le_refl _
    exact I1.fpOk hle (I1.hok.fresh hle)
end TS
end

section
set_option Elab.async false
set_option linter.all false
set_option maxRecDepth 100000
set_option autoImplicit false
set_option maxHeartbeats 2000000
/-! Operators, calls, subscripts on data. -/
namespace Zk
open PySem L2 PyProof.Rows
open Evl (Ex)

/-! ### what the machine's rules are joined to -/
def CMulX (i j : Int) : Prop := i.natAbs.log2 + j.natAbs.log2 < 100000000
theorem CMulX.ok {i j : Int} (h : CMulX i j) : IntMulOk i j := by
  have b : ∀ x : Int, Builtin.Int.intBits x ≤ x.natAbs.log2 + 1 := fun x => by
    unfold Builtin.Int.intBits
    split <;> omega
  have h1 := b i
  have h2 := b j
  have h3 : i.natAbs.log2 + j.natAbs.log2 < 100000000 := h
  have e : bitsLine = 134217728 := by decide
  unfold IntMulOk
  intro z
  rw [Bool.and_eq_true] at z
  have z2 := z.2
  unfold Builtin.Int.intTooBig at z2
  have z3 := of_decide_eq_true z2
  rw [e] at z3
  omega
section
variable {X : Cx}
theorem op_mulX : OpR X (binaryOp .Mult) (rI CMulX fun i j => .int (i * j)) := opI fun _ _ _ _ _ _ _ hc q => mul_int q hc.ok
def rAddA : R2 := fun x y H Q => rI0 (fun i j => .int (i + j)) x y H Q ∨ (∃ i j, x = .str i ∧ y = .str j ∧ i.length + j.length ≤ sizeLine ∧ Q (.str (i ++ j)) H) ∨ rCat x y H Q
theorem op_addA : OpR X (binaryOp .Add) rAddA := op_add.or (op_add_str.or op_cat)
def rMulA : R2 := fun x y H Q => rI CMulX (fun i j => .int (i * j)) x y H Q ∨ rRep x y H Q
theorem op_mulA : OpR X (binaryOp .Mult) rMulA := op_mulX.or op_rep
def rLenA (K : PySem.W.Frag) : List V → Hp → VK → Prop := fun xs H Q => (∃ p ys, xs = [.ref p] ∧ (SqL K H p ys ∨ SqT K H p ys) ∧ Q (.int ys.length) H) ∨ ∃ z, xs = [.str z] ∧ z.length ≤ sizeLine ∧ Q (.int z.length) H
theorem call_lenA : CallR X (.builtin "len") (rLenA X.K) := call_len_seq.or call_len_str
def rMinA (K : PySem.W.Frag) : List V → Hp → VK → Prop := fun xs H Q => (rMin K xs H Q ∨ (∃ i j, xs = [.int i, .int j] ∧ Q (.int (if j < i then j else i)) H)) ∨ TS.rMinT K xs H Q
theorem call_minA (hc : X.calm = true) : CallR X (.builtin "min") (rMinA X.K) := ((cr_min hc).or (call_min2 hc)).or (TS.cr_minT hc)
def rSortedA (K : PySem.W.Frag) : List V → Hp → VK → Prop := fun xs H Q => rSortedI K xs H Q ∨ TS.rSortT K xs H Q
theorem call_sortedA : CallR X (.builtin "sorted") (rSortedA X.K) := cr_sortedI.or TS.cr_sortT
def rMaxA (K : PySem.W.Frag) : List V → Hp → VK → Prop := fun xs H Q => rMax K xs H Q ∨ (∃ i j, xs = [.int i, .int j] ∧ Q (.int (if j > i then j else i)) H)
theorem call_maxA (hc : X.calm = true) : CallR X (.builtin "max") (rMaxA X.K) := (cr_max hc).or (call_max2 hc)
end

/-! ### the same on data -/
def addD : D → D → Option D
  | .int i, .int j => some (.int (i + j))
  | .str a, .str b => if a.length + b.length ≤ 100000 then some (.str (a ++ b)) else none
  | .lst a, .lst b => if a.length + b.length ≤ 100000 then some (.lst (a ++ b)) else none
  | _, _ => none
def subD : D → D → Option D
  | .int i, .int j => some (.int (i - j))
  | _, _ => none
def mulD : D → D → Option D
  | .int i, .int j => if i.natAbs.log2 + j.natAbs.log2 < 100000000 then some (.int (i * j)) else none
  | .lst a, .int k => if k ≤ 100000 ∧ -100000 ≤ k ∧ a.length * k.toNat ≤ 100000 then some (.lst (List.replicate k.toNat a).flatten) else none
  | _, _ => none
def fdivD : D → D → Option D
  | .int i, .int j => if 0 < j ∧ j.natAbs.log2 < 9000 then some (.int (i / j)) else none
  | _, _ => none
def modD : D → D → Option D
  | .int i, .int j => if 0 < j then some (.int (i % j)) else none
  | _, _ => none
def powD : D → D → Option D
  | .int i, .int j => if 0 ≤ j ∧ j ≤ 1000000 ∧ i.natAbs < 2 ^ 64 then some (.int (i ^ j.toNat)) else none
  | _, _ => none
def ltD : D → D → Option D
  | .int i, .int j => some (.bl (decide (i < j)))
  | _, _ => none
def leD : D → D → Option D
  | .int i, .int j => some (.bl (decide (i ≤ j)))
  | _, _ => none
def gtD : D → D → Option D
  | .int i, .int j => some (.bl (decide (j < i)))
  | _, _ => none
def geD : D → D → Option D
  | .int i, .int j => some (.bl (decide (j ≤ i)))
  | _, _ => none

section
variable {K : PySem.W.Frag}
theorem rr_fin {O : Addr → Prop} {H : Hp} {Q : VK} {v : V} {d : D} (q : ∀ w H', Ex H H' → Rp K O H' w d → Q w H') (r : Rp K O H v d) : Q v H := q v H (Evl.Ex.refl H) r
theorem rr_newL {O : Addr → Prop} {H : Hp} {Q : VK} {vs : List V} {ds : List D} (o : ∀ a, O a → Lv H a) (q : ∀ w H', Ex H H' → Rp K O H' w (.lst ds) → Q w H') (r : RpA K O H vs ds) : ∀ p, H p = none → Q (.ref p) (upd H p (.lst vs)) := fun p hp =>
  q _ _ (Evl.Ex.new hp) (.lst (new_not o hp) upd_same (r.ex (Evl.Ex.new hp)))
theorem rr_newT {O : Addr → Prop} {H : Hp} {Q : VK} {vs : List V} {ds : List D} (o : ∀ a, O a → Lv H a) (q : ∀ w H', Ex H H' → Rp K O H' w (.tup ds) → Q w H') (r : RpA K O H vs ds) : ∀ p, H p = none → Q (.ref p) (upd H p (.tup vs)) := fun p hp =>
  q _ _ (Evl.Ex.new hp) (.tup (new_not o hp) upd_same (r.ex (Evl.Ex.new hp)))
theorem rr_add : RR K rAddA addD := fun x y d h O H v u o rx ry Q q => by
  unfold addD at h
  split at h
  · cases h; cases rx; cases ry
    exact .inl ⟨_, _, rfl, rfl, rr_fin q (.int _)⟩
  · split at h
    · rename_i hl
      cases h; cases rx; cases ry
      exact .inr (.inl ⟨_, _, rfl, rfl, Evl.sz_of hl, rr_fin q (.str _)⟩)
    · cases h
  · split at h
    · rename_i hl
      cases h
      cases rx with
      | lst n e r =>
        cases ry with
        | lst n' e' r' => exact .inr (.inr ⟨_, _, _, _, rfl, rfl, e, e', by rw [r.len, r'.len]; exact Evl.sz_of hl, rr_newL o q (r.app r')⟩)
    · cases h
  · cases h
theorem rr_ii {f : D → D → Option D} {g : Int → Int → V} (gd : Int → Int → D) (hf : ∀ x y d, f x y = some d → ∃ i j, x = .int i ∧ y = .int j ∧ d = gd i j) (hg : ∀ (i j : Int) (O : Addr → Prop) (H : Hp), Rp K O H (g i j) (gd i j)) : RR K (rI0 g) f := fun x y d h O H v u o rx ry Q q => by
  obtain ⟨i, j, rfl, rfl, rfl⟩ := hf x y d h
  cases rx; cases ry
  exact ⟨i, j, rfl, rfl, rr_fin q (hg i j O H)⟩
theorem rr_iic {C : Int → Int → Prop} {f : D → D → Option D} {g : Int → Int → V} (gd : Int → Int → D) (hf : ∀ x y d, f x y = some d → ∃ i j, x = .int i ∧ y = .int j ∧ C i j ∧ d = gd i j) (hg : ∀ (i j : Int) (O : Addr → Prop) (H : Hp), Rp K O H (g i j) (gd i j)) : RR K (rI C g) f := fun x y d h O H v u o rx ry Q q => by
  obtain ⟨i, j, rfl, rfl, hc, rfl⟩ := hf x y d h
  cases rx; cases ry
  exact ⟨i, j, rfl, rfl, hc, rr_fin q (hg i j O H)⟩
theorem rr_sub : RR K (rI0 fun i j => .int (i - j)) subD := rr_ii (fun i j => .int (i - j)) (fun x y d h => by unfold subD at h; split at h <;> first | (cases h; exact ⟨_, _, rfl, rfl, rfl⟩) | cases h) fun i j O H => .int _
theorem rr_lt : RR K (rI0 fun i j => .bl (decide (i < j))) ltD := rr_ii (fun i j => .bl (decide (i < j))) (fun x y d h => by unfold ltD at h; split at h <;> first | (cases h; exact ⟨_, _, rfl, rfl, rfl⟩) | cases h) fun i j O H => .bl _
theorem rr_le : RR K (rI0 fun i j => .bl (decide (i ≤ j))) leD := rr_ii (fun i j => .bl (decide (i ≤ j))) (fun x y d h => by unfold leD at h; split at h <;> first | (cases h; exact ⟨_, _, rfl, rfl, rfl⟩) | cases h) fun i j O H => .bl _
theorem rr_gt : RR K (rI0 fun i j => .bl (decide (j < i))) gtD := rr_ii (fun i j => .bl (decide (j < i))) (fun x y d h => by unfold gtD at h; split at h <;> first | (cases h; exact ⟨_, _, rfl, rfl, rfl⟩) | cases h) fun i j O H => .bl _
theorem rr_ge : RR K (rI0 fun i j => .bl (decide (j ≤ i))) geD := rr_ii (fun i j => .bl (decide (j ≤ i))) (fun x y d h => by unfold geD at h; split at h <;> first | (cases h; exact ⟨_, _, rfl, rfl, rfl⟩) | cases h) fun i j O H => .bl _
theorem rr_fdiv : RR K (rI CDivW fun i j => .int (i / j)) fdivD := rr_iic (fun i j => .int (i / j)) (fun x y d h => by
  unfold fdivD at h
  split at h
  · split at h
    · rename_i hc
      cases h; exact ⟨_, _, rfl, rfl, hc, rfl⟩
    · cases h
  · cases h) fun i j O H => .int _
theorem rr_mod : RR K (rI (fun _ j => 0 < j) fun i j => .int (i % j)) modD := rr_iic (fun i j => .int (i % j)) (fun x y d h => by
  unfold modD at h
  split at h
  · split at h
    · rename_i hc
      cases h; exact ⟨_, _, rfl, rfl, hc, rfl⟩
    · cases h
  · cases h) fun i j O H => .int _
theorem rr_pow : RR K (rI CPow fun i j => .int (i ^ j.toNat)) powD := rr_iic (fun i j => .int (i ^ j.toNat)) (fun x y d h => by
  unfold powD at h
  split at h
  · split at h
    · rename_i hc
      cases h; exact ⟨_, _, rfl, rfl, hc, rfl⟩
    · cases h
  · cases h) fun i j O H => .int _
theorem RpA.rep {O : Addr → Prop} {H : Hp} {vs : List V} {ds : List D} (r : RpA K O H vs ds) : ∀ k : Nat, RpA K O H (List.replicate k vs).flatten (List.replicate k ds).flatten
  | 0 => .nil
  | k + 1 => by
    rw [List.replicate_succ, List.replicate_succ, List.flatten_cons, List.flatten_cons]
    exact r.app (RpA.rep r k)
theorem rr_mul : RR K rMulA mulD := fun x y d h O H v u o rx ry Q q => by
  unfold mulD at h
  split at h
  · split at h
    · rename_i hc
      cases h; cases rx; cases ry
      exact .inl ⟨_, _, rfl, rfl, hc, rr_fin q (.int _)⟩
    · cases h
  · split at h
    · rename_i hc
      cases h
      cases rx with
      | lst n e r =>
        cases ry
        obtain ⟨h1, h2, h3⟩ := hc
        exact .inr ⟨_, _, _, rfl, rfl, e, by omega, by omega, by rw [r.len]; exact Evl.sz_of h3, rr_newL o q (r.rep _)⟩
    · cases h
  · cases h
end
end Zk
end

section
set_option Elab.async false
set_option linter.all false
set_option maxRecDepth 100000
set_option maxHeartbeats 4000000
/-! list(reversed(a list)) -/
namespace RT
open PySem PySem.Spec PySem.Calls PyProof.Rows L2
section
variable {prog : Program} {w : World} {A : Around} {E : Value → Shared → Prop} {s : Shared}
theorem list_init_rev {R : Result → Shared → Prop} {it l : Addr} {items : Array Value} (hh : A.handled = none) (hit : s.heap.IsRevIter it l ((items.size : Int) - 1)) (hl : s.heap.IsList l items) (hne : l ≠ it) (hn : items.size ≤ sizeLine)
    (S : Addr) (hS : s.heap.get? S = some { cls := .type "list", data := .seq #[] }) (hSi : S ≠ it) (hSl : S ≠ l)
    (hR : ∀ h' tk acc' c', (∀ b o, b ≠ S → b ≠ it → s.heap.get? b = some o → h'.get? b = some o) → h'.get? S = some { cls := .type "list", dict := none, data := .seq acc' c', slots := #[] } →
      ItemsOf (fun i v => items[items.size - 1 - i]? = some v) acc' items.size → R (.ok (.ret .none)) { s with heap := h', toks := tk }) :
    wpAny (model prog w) A.in1 (Builtin.«list.__init__» ⟨[.ref S, .ref it], []⟩)
      (fun fin s' => match fin with | .done f => R (.ok f) s' | .again c' => c'.quiet = true ∧ codeAny (model prog w) A c' R s') (fun e s' => R (.error e) s') s := by
  have W := (Walks.listRev (prog := prog) (w := w) (A := A.in1) hh it l hne items).toS
  have hSf : S ∉ [it, l] := by simp only [List.mem_cons, List.not_mem_nil, or_false, not_or]; exact ⟨hSi, hSl⟩
  show wpAny _ _ (do let old ← Builtin.List.listItems (.ref S); Builtin.List.listUpdate (.ref S) (fun _ => #[]); letGo old.toList.reverse; Builtin.List.listExtendWith (.ref S) (.ref it) .none) _ _ s
  refine wpAny_bind ?_
  unfold Builtin.List.listItems
  refine wpAny_bind (wpAny_seqItems hS rfl (wpAny_pure ?_))
  show wpAny _ _ (updateSeq S (fun _ => #[]) >>= fun _ => letGo (#[] : Array Value).toList.reverse >>= fun _ => Builtin.List.listExtendWith (.ref S) (.ref it) .none) _ _ s
  refine wpAny_bind (wpAny_updateSeq hS rfl ?_)
  have hS1 := Heap.get?_update_self (Obj.mapSeq (fun _ => (#[] : Array Value))) hS rfl
  have oth : ∀ b o, b ≠ S → s.heap.get? b = some o → (s.heap.update S (Obj.mapSeq (fun _ => (#[] : Array Value)))).get? b = some o :=
    fun b o hb e => (Heap.get?_update_other _ _ (Ne.symm hb)).trans e
  refine wpAny_bind (wpAny_letGo ?_)
  have hit1 : (s.heap.update S (Obj.mapSeq (fun _ => (#[] : Array Value)))).IsRevIter it l ((items.size : Int) - 1) := hit.at fun o e => oth it o (Ne.symm hSi) e
  have hl1 : (s.heap.update S (Obj.mapSeq (fun _ => (#[] : Array Value)))).IsList l items := hl.at fun o e => oth l o (Ne.symm hSl) e
  have hT : ({ s with heap := s.heap.update S (Obj.mapSeq (fun _ => (#[] : Array Value))) } : Shared).TypeIs (.ref it) "list_reverseiterator" := Heap.IsRevIter.typeIs (s := { s with heap := s.heap.update S (Obj.mapSeq (fun _ => (#[] : Array Value))) }) hit1
  have h1 : Builtin.List.listSameRef (.ref S) (.ref it) = false := by simp [Builtin.List.listSameRef, hSi]
  unfold Builtin.List.listExtendWith
  refine wpAny_bind (wpAny_typeOf hT ?_)
  rw [if_neg (by rw [h1]; decide)]
  refine wpAny_bind (wpAny_pyIter_revIter (s := { s with heap := s.heap.update S (Obj.mapSeq (fun _ => (#[] : Array Value))) }) hit1 ?_)
  refine wpAny_bind (wpAny_holding ?_)
  unfold Builtin.List.listLengthHint
  refine wpAny_bind (wpAny_specialOf hT nolen_lri ?_)
  show wpAny _ A.in1 (specialOf (Value.ref it) (Str.ofString "__length_hint__") >>= _) _ _ _
  refine wpAny_bind (wpAny_specialOf hT hint_lri ?_)
  generalize hid : ("list_reverseiterator.__length_hint__" : String) = id0
  wp_delta
  rw [show splitId id0 = some ("list_reverseiterator", "__length_hint__") from by subst hid; decide +kernel]
  subst hid
  refine wpAny_bind (wpAny_isInstance (b := true) hT (by rw [isSubtype_type]; kernel_rfl) ?_)
  refine wpAny_pure ?_
  rw [if_neg (by decide)]
  have e0 : ((items.size : Nat) : Int) - 1 - ((0 : Nat) : Int) = (items.size : Int) - 1 := by omega
  refine wpAny_pure ⟨plainId_quiet F.plain_extend_loop _, codeAny_extend_loopS W hn _ hSf _ items.size 0 _ _ _ rfl (Nat.zero_le _) ⟨Nat.zero_le _, by rw [e0]; exact hit1, hl1⟩ hS1 (ItemsOf.nil _) fun s' acc' c' hm hS' hacc => ?_⟩
  rw [Moved.eq_with hm]
  refine hR s'.heap s'.toks acc' c' (fun b o hb hb2 e => hm.heap b o (fun hmem => ?_) (oth b o hb e)) hS' hacc
  rcases List.mem_cons.mp hmem with e' | hmem
  · exact hb e'
  · exact hb2 (List.mem_singleton.mp hmem)
theorem call_list_rev {it l : Addr} {items : Array Value} {Q : Value → Shared → Prop} (hh : A.handled = none) (hit : s.heap.IsRevIter it l ((items.size : Int) - 1)) (hl : s.heap.IsList l items) (hne : l ≠ it) (hn : items.size ≤ sizeLine)
    (hQ : ∀ h' tk acc' c', (∀ b o, b ≠ it → s.heap.get? b = some o → h'.get? b = some o) → h'.get? s.heap.objs.size = some { cls := .type "list", dict := none, data := .seq acc' c', slots := #[] } →
      ItemsOf (fun i v => items[items.size - 1 - i]? = some v) acc' items.size → Q (.ref s.heap.objs.size) { s with heap := h', toks := tk }) :
    wpAny (model prog w) A (call (.type "list") [.ref it]) Q E s := by
  obtain ⟨oi, hoi, _⟩ := id hit
  obtain ⟨ol, hol, _⟩ := id hl
  refine callType_codes (Q₁ := fun obj s₁ => obj = .ref s.heap.objs.size ∧ s₁ = { s with heap := s.heap.push { cls := .type "list", data := .seq #[] } }) F.called_list (F.typeCall_list_1 _) F.entry_list_init
    (code_list_new _ ⟨rfl, rfl⟩) fun obj s₁ h₁ => ?_
  obtain ⟨rfl, rfl⟩ := h₁
  have hS : (s.heap.push { cls := .type "list", data := .seq #[] }).get? s.heap.objs.size = some { cls := .type "list", data := .seq #[] } := Heap.get?_push_size _ rfl
  refine ⟨⟨_, hS, rfl⟩, F.args_list_init_2 _ _, list_init_rev (A := A.in1) hh (hit.at fun o e => Heap.get?_push_of_some _ e) (hl.push _) hne hn _ hS (Nat.ne_of_gt (Heap.lt_size hoi)) (Nat.ne_of_gt (Heap.lt_size hol)) fun h' tk acc' c' hk hS' hacc => ?_⟩
  exact ⟨rfl, hQ h' tk acc' c' (fun b o hb e => hk b o (Nat.ne_of_lt (Heap.lt_size e)) hb (Heap.get?_push_of_some _ e)) hS' hacc⟩
end
section
variable {X : Cx}
/-- list(reversed(xs)), xs a list -/
def tListRev (K : PySem.W.Frag) (te : TE) : TE := fun σ H Q => te σ H fun v H1 => ∃ (a : Addr) (xs : List V), v = .ref a ∧ SqL K H1 a xs ∧ ∀ q, H1 q = none → Q (.ref q) (upd H1 q (.lst xs.reverse))
theorem pe_listRev {e : Expr} {te : TE} {p p2 pos pos2 : Pos} (hc : X.calm = true) (hg : Gl X "list") (hm : X.mg "list" = none) (hg2 : Gl X "reversed") (hm2 : X.mg "reversed" = none) (he : PE X e te)
    (hs : starEach [e] X.env = (false, eval e X.env) :: starEach [] X.env := by rfl)
    (hs2 : starEach [.Call (.Name "reversed" p2) [e] [] pos2] X.env = (false, eval (.Call (.Name "reversed" p2) [e] [] pos2) X.env) :: starEach [] X.env := by rfl) :
    PE X (.Call (.Name "list" p) [.Call (.Name "reversed" p2) [e] [] pos2] [] pos) (tListRev X.K te) := by
  refine ⟨fun pins s σ H Q I h => ?_⟩
  refine Call_ (ld_blt I hg hm boot_list (PyProof.Rows.callWith_type1 (args_cons (Call_ (ld_blt I hg2 hm2 PyProof.Rows.boot_reversed (PyProof.Rows.callWith_type1 (args_cons (thn (he.run pins s σ H _ I h) fun u s1 ⟨v, H1, I1, r1, q1⟩ => args_nil ?_) hs) hs rfl))) hs2) hs2 rfl))
  obtain ⟨a, xs, ev, hq, q⟩ := q1
  subst ev
  obtain rfl : u = Value.ref a := r1
  obtain ⟨its, rv, p', hz⟩ := I1.list hq
  refine call_reversed_list p'.isList (args_nil ?_)
  have k0 : ∀ b o, s1.heap.get? b = some o → (s1.heap.push (revObj a ((its.toArray.size : Int) - 1))).get? b = some o := fun b o e => Heap.get?_push_of_some _ e
  have I2 : Inv X pins σ H1 { s1 with heap := s1.heap.push (revObj a ((its.toArray.size : Int) - 1)) } := I1.kept (t' := s1.toks) k0
  obtain ⟨f0, f1, f2, f3, f4, f5⟩ := I1.fpOk (H' := H1) (b := s1.heap.objs.size) (Nat.le_refl _) (I1.hok.fresh (Nat.le_refl _))
  have hl := p'.isList
  obtain ⟨ol, hol, _⟩ := id hl
  have hne : a ≠ s1.heap.objs.size := Nat.ne_of_lt (Heap.lt_size hol)
  have hn : its.toArray.size ≤ sizeLine := by rw [List.size_toArray, ← rv.length]; exact hz
  have hsz : (s1.heap.push (revObj a ((its.toArray.size : Int) - 1))).objs.size = s1.heap.objs.size + 1 := by simp [Heap.push]
  refine call_list_rev (s := { s1 with heap := s1.heap.push (revObj a ((its.toArray.size : Int) - 1)) }) (I1.ok.hd hc) ⟨_, Heap.get?_push_size _ rfl, rfl, rfl⟩ (hl.push _) hne hn fun h' tk acc c' hk hS hi => ?_
  have kk : ∀ b o, s1.heap.get? b = some o → h'.get? b = some o := fun b o e => hk b o (Nat.ne_of_lt (Heap.lt_size e)) (k0 b o e)
  have hp : s1.heap.objs.size ≤ (s1.heap.push (revObj a ((its.toArray.size : Int) - 1))).objs.size := by rw [hsz]; exact Nat.le_succ _
  refine ⟨.ref _, _, I1.laid (t' := tk) (o := .lst xs.reverse) kk hp (show ObjOk X.prog X.w _ _ _ (.lst xs.reverse) from ⟨by rw [List.length_reverse]; exact hz, acc.toList, c', vals_rev rv hi, ?_⟩), rfl, q _ (I1.hok.fresh hp)⟩
  rw [Array.toArray_toList]
  exact hS
end
end RT
end

section
set_option Elab.async false
set_option linter.all false
set_option maxRecDepth 100000
set_option autoImplicit false
set_option maxHeartbeats 2000000
/-! Comparisons, subscripts, built-in calls on data. -/
namespace Zk
open PySem L2 PyProof.Rows
open Evl (Ex)

/-! ### ==, != at any depth -/
mutual
def toP : D → Option PyData
  | .non => some .none
  | .bl b => some (.bool b)
  | .int i => some (.int i)
  | .str s => some (.str s)
  | .lst ds => (toPs ds).map .list
  | .tup ds => (toPs ds).map .tuple
  | _ => none
def toPs : List D → Option (List PyData)
  | [] => some []
  | d :: ds => (toP d).bind fun p => (toPs ds).map (p :: ·)
end
section
variable {K : PySem.W.Frag} {O : Addr → Prop} {H : Hp}
mutual
theorem dp_of : ∀ {d : D} {v : V} {p : PyData}, Rp K O H v d → toP d = some p → Dp K H v p
  | .non, _, _, .non, e => by cases e; exact .non
  | .bl _, _, _, .bl b, e => by cases e; exact .bl b
  | .int _, _, _, .int i, e => by cases e; exact .int i
  | .str _, _, _, .str s, e => by cases e; exact .str s
  | .lst ds, _, p, .lst n h r, e => by
    unfold toP at e
    cases q : toPs ds with
    | none => rw [q] at e; cases e
    | some ps =>
      rw [q] at e
      cases e
      exact .lst (.of h) (dps_of r q)
  | .tup ds, _, p, .tup n h r, e => by
    unfold toP at e
    cases q : toPs ds with
    | none => rw [q] at e; cases e
    | some ps =>
      rw [q] at e
      cases e
      exact .tup (.of h) (dps_of r q)
  | .scr _, _, _, _, e => by cases e
  | .ins _ _, _, _, _, e => by cases e
  | .ty _, _, _, _, e => by cases e
  | .cls _, _, _, _, e => by cases e
theorem dps_of : ∀ {ds : List D} {vs : List V} {ps : List PyData}, RpA K O H vs ds → toPs ds = some ps → DpAll K H vs ps
  | [], _, _, .nil, e => by cases e; exact .nil
  | d :: ds, _, ps, .cons h r, e => by
    unfold toPs at e
    cases q : toP d with
    | none => rw [q] at e; cases e
    | some p =>
      rw [q] at e
      cases q2 : toPs ds with
      | none => simp [q2] at e
      | some ps' =>
        simp only [Option.bind_some, q2, Option.map_some] at e
        cases e
        exact .cons (dp_of h q) (dps_of r q2)
end
end
def eqB (x y : D) : Option Bool := (toP x).bind fun p => (toP y).bind fun q => if SeqAt.shaped p && SeqAt.shaped q then some (PyData.eqv p q) else none
def eqD (x y : D) : Option D := (eqB x y).map .bl
def neD (x y : D) : Option D := (eqB x y).map fun b => .bl (!b)
theorem eqB_get {x y : D} {b : Bool} (h : eqB x y = some b) : ∃ p q, toP x = some p ∧ toP y = some q ∧ SeqAt.shaped p = true ∧ SeqAt.shaped q = true ∧ b = PyData.eqv p q := by
  unfold eqB at h
  cases hx : toP x with
  | none => rw [hx] at h; cases h
  | some p =>
    rw [hx] at h
    cases hy : toP y with
    | none => simp [hy] at h
    | some q =>
      simp only [Option.bind_some, hy] at h
      split at h
      · rename_i c
        cases h
        rw [Bool.and_eq_true] at c
        exact ⟨p, q, rfl, rfl, c.1, c.2, rfl⟩
      · cases h
section
variable {K : PySem.W.Frag}
theorem rr_eq : RR K (rEqD K) eqD := fun x y d h O H v u o rx ry Q q => by
  unfold eqD at h
  cases e : eqB x y with
  | none => rw [e] at h; cases h
  | some b =>
    rw [e] at h
    cases h
    obtain ⟨p, p', h1, h2, h3, h4, rfl⟩ := eqB_get e
    exact ⟨p, p', dp_of rx h1, dp_of ry h2, h3, h4, rr_fin q (.bl _)⟩
theorem rr_ne : RR K (rNeD K) neD := fun x y d h O H v u o rx ry Q q => by
  unfold neD at h
  cases e : eqB x y with
  | none => rw [e] at h; cases h
  | some b =>
    rw [e] at h
    cases h
    obtain ⟨p, p', h1, h2, h3, h4, rfl⟩ := eqB_get e
    exact ⟨p, p', dp_of rx h1, dp_of ry h2, h3, h4, rr_fin q (.bl _)⟩
/-- is None -/
def rIsN : R2 := fun x y H Q => y = .non ∧ Q (.bl (decide (x = .non))) H
def rNotN : R2 := fun x y H Q => y = .non ∧ Q (.bl (!decide (x = .non))) H
def isNonD : D → Bool
  | .non => true
  | _ => false
def isD (x : D) : D → Option D
  | .non => some (.bl (isNonD x))
  | _ => none
def isntD (x : D) : D → Option D
  | .non => some (.bl (!isNonD x))
  | _ => none
theorem isNon_rp {O : Addr → Prop} {H : Hp} {v : V} {d : D} (r : Rp K O H v d) : decide (v = .non) = isNonD d := by
  cases r <;> first | rfl | (show decide (V.ref _ = V.non) = false; exact decide_eq_false (fun q => by cases q)) | exact decide_eq_false (fun q => by cases q)
theorem rr_is : RR K rIsN isD := fun x y d h O H v u o rx ry Q q => by
  unfold isD at h
  split at h
  · cases h; cases ry
    exact ⟨rfl, by rw [isNon_rp rx]; exact rr_fin q (.bl _)⟩
  · cases h
theorem rr_isnt : RR K rNotN isntD := fun x y d h O H v u o rx ry Q q => by
  unfold isntD at h
  split at h
  · cases h; cases ry
    exact ⟨rfl, by rw [isNon_rp rx]; exact rr_fin q (.bl _)⟩
  · cases h
/-! ### in: flat items -/
def D.flat4 : D → Bool
  | .non => true | .bl _ => true | .int _ => true | .str _ => true | _ => false
def eqF : D → D → Bool
  | .non, .non => true
  | .bl a, .bl b => a == b
  | .bl a, .int b => (if a then 1 else 0) == b
  | .int a, .bl b => a == (if b then 1 else 0)
  | .int a, .int b => a == b
  | .str a, .str b => a == b
  | _, _ => false
theorem flat4_rp {O : Addr → Prop} {H : Hp} {v : V} {d : D} (r : Rp K O H v d) (f : d.flat4 = true) : flatV v = true := by
  cases r <;> first | rfl | cases f
theorem eqF_rp {O O' : Addr → Prop} {H H' : Hp} {v u : V} {d e : D} (r : Rp K O H v d) (s : Rp K O' H' u e) (f : d.flat4 = true) (f' : e.flat4 = true) : eqV v u = eqF d e := by
  cases r <;> first | (cases f; done) | (cases s <;> first | (cases f'; done) | rfl)
theorem flats_rp {O : Addr → Prop} {H : Hp} : ∀ {vs : List V} {ds : List D}, RpA K O H vs ds → ds.all D.flat4 = true → vs.all flatV = true
  | _, _, .nil, _ => rfl
  | _, _, .cons h r, f => by
    rw [List.all_cons, Bool.and_eq_true] at f ⊢
    exact ⟨flat4_rp h f.1, flats_rp r f.2⟩
theorem inV_rp {O : Addr → Prop} {H : Hp} {u : V} {e : D} (s : Rp K O H u e) (f' : e.flat4 = true) : ∀ {vs : List V} {ds : List D}, RpA K O H vs ds → ds.all D.flat4 = true → inV u vs = ds.any fun z => eqF z e
  | _, _, .nil, _ => rfl
  | _, _, .cons h r, f => by
    rw [List.all_cons, Bool.and_eq_true] at f
    have ih := inV_rp s f' r f.2
    unfold inV at ih ⊢
    rw [List.any_cons, List.any_cons, ih, eqF_rp h s f.1 f']
def inB (x : D) : D → Option Bool
  | .lst ds => if x.flat4 && ds.all D.flat4 then some (ds.any fun z => eqF z x) else none
  | .tup ds => if x.flat4 && ds.all D.flat4 then some (ds.any fun z => eqF z x) else none
  | _ => none
def inD (x y : D) : Option D := (inB x y).map .bl
def ninD (x y : D) : Option D := (inB x y).map fun b => .bl (!b)
theorem in_rp {O : Addr → Prop} {H : Hp} {x y : D} {v u : V} {b : Bool} (h : inB x y = some b) (rx : Rp K O H v x) (ry : Rp K O H u y) : ∃ p xs, u = .ref p ∧ (SqL K H p xs ∨ SqT K H p xs) ∧ flatV v = true ∧ xs.all flatV = true ∧ inV v xs = b := by
  unfold inB at h
  split at h
  · split at h
    · rename_i c
      cases h
      rw [Bool.and_eq_true] at c
      cases ry with
      | lst n e r => exact ⟨_, _, rfl, .inl (.of e), flat4_rp rx c.1, flats_rp r c.2, inV_rp rx c.1 r c.2⟩
    · cases h
  · split at h
    · rename_i c
      cases h
      rw [Bool.and_eq_true] at c
      cases ry with
      | tup n e r => exact ⟨_, _, rfl, .inr (.of e), flat4_rp rx c.1, flats_rp r c.2, inV_rp rx c.1 r c.2⟩
    · cases h
  · cases h
theorem rr_in : RR K (rIn K false) inD := fun x y d h O H v u o rx ry Q q => by
  unfold inD at h
  cases e : inB x y with
  | none => rw [e] at h; cases h
  | some b =>
    rw [e] at h
    cases h
    obtain ⟨p, xs, h1, h2, h3, h4, h5⟩ := in_rp e rx ry
    refine ⟨p, xs, h1, h2, h3, h4, ?_⟩
    rw [if_neg Bool.false_ne_true, h5]
    exact rr_fin q (.bl _)
theorem rr_nin : RR K (rIn K true) ninD := fun x y d h O H v u o rx ry Q q => by
  unfold ninD at h
  cases e : inB x y with
  | none => rw [e] at h; cases h
  | some b =>
    rw [e] at h
    cases h
    obtain ⟨p, xs, h1, h2, h3, h4, h5⟩ := in_rp e rx ry
    refine ⟨p, xs, h1, h2, h3, h4, ?_⟩
    rw [if_pos rfl, h5]
    exact rr_fin q (.bl _)
/-! ### subscripts -/
def ixD : D → D → Option D
  | .lst ds, .int i => atI ds i
  | .tup ds, .int i => atI ds i
  | .scr ns, .int i => (atI ns i).map .int
  | .str s, .int i => if s.length ≤ 100000 then (atI s.cps.toList i).map fun c => .str ⟨#[c]⟩ else none
  | _, _ => none
theorem RpA.at {O : Addr → Prop} {H : Hp} {vs : List V} {ds : List D} {i : Int} {d : D} (r : RpA K O H vs ds) (h : atI ds i = some d) : ∃ v, atI vs i = some v ∧ Rp K O H v d := by
  unfold atI at h ⊢
  rw [r.len]
  cases e : ixN ds.length i with
  | none => rw [e] at h; cases h
  | some j =>
    rw [e] at h
    obtain ⟨v, h1, h2⟩ := r.get h
    exact ⟨v, h1, h2⟩
theorem atI_map {α β : Type} (f : α → β) (xs : List α) (i : Int) : atI (xs.map f) i = (atI xs i).map f := by
  unfold atI
  rw [List.length_map]
  cases ixN xs.length i with
  | none => rfl
  | some j => simp [List.getElem?_map]
theorem rr_ix : RR K (rIx K) ixD := fun x y d h O H v u o rx ry Q q => by
  unfold ixD at h
  split at h
  · cases ry
    cases rx with
    | lst n e r =>
      obtain ⟨w, h1, h2⟩ := r.at h
      exact .inl ⟨_, _, _, w, rfl, rfl, .of e, h1, rr_fin q h2⟩
  · cases ry
    cases rx with
    | tup n e r =>
      obtain ⟨w, h1, h2⟩ := r.at h
      exact .inr (.inl ⟨_, _, _, w, rfl, rfl, .of e, h1, rr_fin q h2⟩)
  · rename_i ns i
    cases ry
    cases e : atI ns i with
    | none => rw [e] at h; cases h
    | some k =>
      rw [e] at h
      cases h
      have e2 : atI (ns.map V.int) i = some (.int k) := by rw [atI_map, e] <;> rfl
      cases rx with
      | scr n r => exact .inl ⟨_, _, _, _, rfl, rfl, .inl r, e2, rr_fin q (.int k)⟩
      | kscr r => exact .inl ⟨_, _, _, _, rfl, rfl, r H, e2, rr_fin q (.int k)⟩
  · rename_i s i
    split at h
    · rename_i hl
      cases e : atI s.cps.toList i with
      | none => rw [e] at h; cases h
      | some k =>
        rw [e] at h
        cases h; cases rx; cases ry
        exact .inr (.inr ⟨_, _, _, rfl, rfl, Evl.sz_of hl, e, rr_fin q (.str _)⟩)
    · cases h
  · cases h
/-! ### slices -/
abbrev DOF : Type := Gm → Option (Option Int)
def oNone : DOF := fun _ => some none
def oSome (a : DF) : DOF := fun g => (a g).bind fun x => match x with
  | .int i => some (some i)
  | _ => none
def OR (K : PySem.W.Frag) (to : TO) (t : DOF) : Prop := ∀ g b, t g = some b → ∀ H0 Oc pins ow σ H, Reps K H0 Oc pins ow σ H g → ∀ Q : Option Int → Hp → Prop, (∀ H', Ex H H' → Q b H') → to σ H Q
theorem or_none : OR K tNoPart oNone := fun g d h H0 Oc pins ow σ H R Q q => by cases h; exact q H (Evl.Ex.refl H)
theorem or_some {te : TE} {a : DF} (ha : ER K te a) : OR K (tPart te) (oSome a) := fun g d h H0 Oc pins ow σ H R Q q => by
  unfold oSome at h
  cases ea : a g with
  | none => rw [ea] at h; cases h
  | some x =>
    rw [ea] at h
    simp only [Option.bind_some] at h
    split at h
    · cases h
      exact ha g _ ea H0 Oc pins ow σ H R _ fun v H1 e1 r1 => by
        cases r1
        exact ⟨_, rfl, q H1 e1⟩
    · cases h
def cutL {α : Type} (xs : List α) (lo hi : Option Int) : List α := (xs.drop (HT.sIx xs.length 0 lo)).take (HT.sIx xs.length xs.length hi - HT.sIx xs.length 0 lo)
theorem RpA.cut {O : Addr → Prop} {H : Hp} {vs : List V} {ds : List D} (r : RpA K O H vs ds) (lo hi : Option Int) : RpA K O H (cutV vs lo hi) (cutL ds lo hi) := by
  unfold cutV cutL
  rw [r.len]
  exact (r.drop _).take _
def slD : D → Option Int → Option Int → Option D
  | .lst ds, lo, hi => some (.lst (cutL ds lo hi))
  | _, _, _ => none
def dSl (a : DF) (lo hi : DOF) : DF := fun g => (a g).bind fun x => (lo g).bind fun l => (hi g).bind fun h => slD x l h
theorem er_sl {te : TE} {tl th : TO} {a : DF} {lo hi : DOF} (ha : ER K te a) (hl : OR K tl lo) (hh : OR K th hi) : ER K (tSl (rSlL K) te tl th) (dSl a lo hi) := fun g d h H0 Oc pins ow σ H R Q q => by
  unfold dSl at h
  cases ea : a g with
  | none => rw [ea] at h; cases h
  | some x =>
    rw [ea] at h
    cases el : lo g with
    | none => simp [el] at h
    | some l =>
      simp only [Option.bind_some, el] at h
      cases eh : hi g with
      | none => simp [eh] at h
      | some u =>
        simp only [Option.bind_some, eh] at h
        refine ha g x ea H0 Oc pins ow σ H R _ fun v H1 e1 r1 => ?_
        refine hl g l el H0 Oc pins ow σ H1 (R.grow e1) _ fun H2 e2 => ?_
        refine hh g u eh H0 Oc pins ow σ H2 ((R.grow e1).grow e2) _ fun H3 e3 => ?_
        unfold slD at h
        split at h
        · cases h
          have r3 := (r1.ex e2).ex e3
          cases r3 with
          | lst n e r =>
            exact ⟨_, _, rfl, .of e, rr_newL (((R.grow e1).grow e2).grow e3).oo (fun w H' e' r' => q w H' (((e1.trans e2).trans e3).trans e') r') (r.cut l u)⟩
        · cases h
/-! ### calls -/
def lenD : List D → Option D
  | [.lst ds] => some (.int ds.length)
  | [.tup ds] => some (.int ds.length)
  | [.scr ns] => some (.int ns.length)
  | [.str s] => if s.length ≤ 100000 then some (.int s.length) else none
  | _ => none
theorem rc_len : RC K (rLenA K) lenD := fun xs d h O H vs o r Q q => by
  unfold lenD at h
  split at h
  · cases h
    cases r with
    | cons r rr =>
      cases rr
      cases r with
      | lst n e r => exact .inl ⟨_, _, rfl, .inl (.of e), by rw [r.len]; exact rr_fin q (.int _)⟩
  · cases h
    cases r with
    | cons r rr =>
      cases rr
      cases r with
      | tup n e r => exact .inl ⟨_, _, rfl, .inr (.of e), by rw [r.len]; exact rr_fin q (.int _)⟩
  · cases h
    cases r with
    | cons r rr =>
      cases rr
      cases r with
      | scr n e => exact .inl ⟨_, _, rfl, .inl (.inl e), by rw [List.length_map]; exact rr_fin q (.int _)⟩
      | kscr e => exact .inl ⟨_, _, rfl, .inl (e H), by rw [List.length_map]; exact rr_fin q (.int _)⟩
  · split at h
    · rename_i hl
      cases h
      cases r with
      | cons r rr =>
        cases rr
        cases r
        exact .inr ⟨_, rfl, Evl.sz_of hl, rr_fin q (.int _)⟩
    · cases h
  · cases h
def rAbs : List V → Hp → VK → Prop := fun xs H Q => ∃ i, xs = [.int i] ∧ Q (.int (if i < 0 then -i else i)) H
def absD : List D → Option D
  | [.int i] => some (.int (if i < 0 then -i else i))
  | _ => none
theorem rc_abs : RC K rAbs absD := fun xs d h O H vs o r Q q => by
  unfold absD at h
  split at h
  · cases h
    cases r with
    | cons r rr => cases rr; cases r; exact ⟨_, rfl, rr_fin q (.int _)⟩
  · cases h
def rInt1 : List V → Hp → VK → Prop := fun xs H Q => (∃ i, xs = [.int i] ∧ Q (.int i) H) ∨ ∃ k, xs = [.bl k] ∧ Q (.int (if k then 1 else 0)) H
def intD : List D → Option D
  | [.int i] => some (.int i)
  | [.bl k] => some (.int (if k = true then 1 else 0))
  | _ => none
theorem rc_int : RC K rInt1 intD := fun xs d h O H vs o r Q q => by
  unfold intD at h
  split at h
  · cases h
    cases r with
    | cons r rr => cases rr; cases r; exact .inl ⟨_, rfl, rr_fin q (.int _)⟩
  · cases h
    cases r with
    | cons r rr => cases rr; cases r; exact .inr ⟨_, rfl, rr_fin q (.int _)⟩
  · cases h
def rListOf (K : PySem.W.Frag) : List V → Hp → VK → Prop := fun xs H Q => ∃ p ys, xs = [.ref p] ∧ (SqL K H p ys ∨ SqT K H p ys) ∧ ∀ l, H l = none → Q (.ref l) (upd H l (.lst ys))
def listD : List D → Option D
  | [.lst ds] => some (.lst ds)
  | [.tup ds] => some (.lst ds)
  | _ => none
theorem rc_list : RC K (rListOf K) listD := fun xs d h O H vs o r Q q => by
  unfold listD at h
  split at h
  · cases h
    cases r with
    | cons r rr =>
      cases rr
      cases r with
      | lst n e r => exact ⟨_, _, rfl, .inl (.of e), rr_newL o q r⟩
  · cases h
    cases r with
    | cons r rr =>
      cases rr
      cases r with
      | tup n e r => exact ⟨_, _, rfl, .inr (.of e), rr_newL o q r⟩
  · cases h
def rTupleOf (K : PySem.W.Frag) : List V → Hp → VK → Prop := fun xs H Q => ∃ p ys, xs = [.ref p] ∧ ((SqL K H p ys ∧ ∀ l, H l = none → Q (.ref l) (upd H l (.tup ys))) ∨ (SqT K H p ys ∧ Q (.ref p) H))
def tupleD : List D → Option D
  | [.lst ds] => some (.tup ds)
  | [.tup ds] => some (.tup ds)
  | _ => none
theorem rc_tuple : RC K (rTupleOf K) tupleD := fun xs d h O H vs o r Q q => by
  unfold tupleD at h
  split at h
  · cases h
    cases r with
    | cons r rr =>
      cases rr
      cases r with
      | lst n e r => exact ⟨_, _, rfl, .inl ⟨.of e, rr_newT o q r⟩⟩
  · cases h
    cases r with
    | cons r rr =>
      cases rr
      cases r with
      | tup n e r => exact ⟨_, _, rfl, .inr ⟨.of e, rr_fin q (.tup n e r)⟩⟩
  · cases h
def asInts : List D → Option (List Int)
  | [] => some []
  | .int i :: ds => (asInts ds).map (i :: ·)
  | _ => none
theorem asInts_iL : ∀ {ds : List D} {ns : List Int}, asInts ds = some ns → ds = iL ns
  | [], ns, h => by cases h; rfl
  | .int i :: ds, ns, h => by
    unfold asInts at h
    cases e : asInts ds with
    | none => rw [e] at h; cases h
    | some ms =>
      rw [e] at h
      cases h
      show D.int i :: ds = D.int i :: iL ms
      rw [asInts_iL e]
  | .non :: _, _, h => by cases h
  | .bl _ :: _, _, h => by cases h
  | .str _ :: _, _, h => by cases h
  | .lst _ :: _, _, h => by cases h
  | .tup _ :: _, _, h => by cases h
  | .scr _ :: _, _, h => by cases h
  | .ins _ _ :: _, _, h => by cases h
  | .dct _ :: _, _, h => by cases h
  | .ty _ :: _, _, h => by cases h
  | .cls _ :: _, _, h => by cases h
theorem asInts_of : ∀ ns : List Int, asInts (iL ns) = some ns
  | [] => rfl
  | n :: ns => by
    show (asInts (iL ns)).map (n :: ·) = _
    rw [asInts_of ns] <;> rfl
def asBls : List D → Option (List Bool)
  | [] => some []
  | .bl i :: ds => (asBls ds).map (i :: ·)
  | _ => none
theorem asBls_vs {O : Addr → Prop} {H : Hp} : ∀ {ds : List D} {vs : List V} {ns : List Bool}, RpA K O H vs ds → asBls ds = some ns → vs = ns.map V.bl
  | [], _, ns, .nil, h => by cases h; rfl
  | d :: ds, _, ns, .cons r rr, h => by
    cases r <;> first | (cases h; done) | skip
    unfold asBls at h
    cases e : asBls ds with
    | none => rw [e] at h; cases h
    | some ms =>
      rw [e] at h
      cases h
      rw [List.map_cons, asBls_vs rr e]
def minD : List D → Option D
  | [.lst ds] => (asInts ds).bind fun ns => ns.min?.map .int
  | [.tup ds] => (asInts ds).bind fun ns => ns.min?.map .int
  | [.int i, .int j] => some (.int (if j < i then j else i))
  | _ => none
theorem min_pick {ns : List Int} {m : Int} (em : ns.min? = some m) : 0 < ns.length ∧ ∀ k, k ∈ ns → (∀ y, y ∈ ns → k ≤ y) → k = m := by
  have hm := List.min?_eq_some_iff.mp em
  refine ⟨?_, fun k hk hle => Int.le_antisymm (hle m hm.1) (hm.2 k hk)⟩
  cases ns with
  | nil => cases em
  | cons a b => exact Nat.succ_pos _
theorem rc_min : RC K (rMinA K) minD := fun xs d h O H vs o r Q q => by
  unfold minD at h
  split at h
  · rename_i ds
    cases e : asInts ds with
    | none => rw [e] at h; cases h
    | some ns =>
      rw [e] at h
      simp only [Option.bind_some] at h
      cases em : ns.min? with
      | none => rw [em] at h; cases h
      | some m =>
        rw [em] at h
        cases h
        obtain rfl := asInts_iL e
        cases r with
        | cons r rr =>
          cases rr
          cases r with
          | lst n e r =>
            rw [r.toInts] at e
            refine .inl (.inl ⟨_, ns, rfl, .of e, (min_pick em).1, fun k hk hle => ?_⟩)
            rw [(min_pick em).2 k hk hle]
            exact rr_fin q (.int m)
  · rename_i ds
    cases e : asInts ds with
    | none => rw [e] at h; cases h
    | some ns =>
      rw [e] at h
      simp only [Option.bind_some] at h
      cases em : ns.min? with
      | none => rw [em] at h; cases h
      | some m =>
        rw [em] at h
        cases h
        obtain rfl := asInts_iL e
        cases r with
        | cons r rr =>
          cases rr
          cases r with
          | tup n e r =>
            rw [r.toInts] at e
            refine .inr ⟨_, ns, rfl, .of e, (min_pick em).1, fun k hk hle => ?_⟩
            rw [(min_pick em).2 k hk hle]
            exact rr_fin q (.int m)
  · cases h
    cases r with
    | cons r rr =>
      cases rr with
      | cons r' rr =>
        cases rr; cases r; cases r'
        exact .inl (.inr ⟨_, _, rfl, rr_fin q (.int _)⟩)
  · cases h
def maxD : List D → Option D
  | [.lst ds] => (asInts ds).bind fun ns => ns.max?.map .int
  | [.int i, .int j] => some (.int (if j > i then j else i))
  | _ => none
theorem rc_max : RC K (rMaxA K) maxD := fun xs d h O H vs o r Q q => by
  unfold maxD at h
  split at h
  · rename_i ds
    cases e : asInts ds with
    | none => rw [e] at h; cases h
    | some ns =>
      rw [e] at h
      simp only [Option.bind_some] at h
      cases em : ns.max? with
      | none => rw [em] at h; cases h
      | some m =>
        rw [em] at h
        cases h
        obtain rfl := asInts_iL e
        cases r with
        | cons r rr =>
          cases rr
          cases r with
          | lst n e r =>
            rw [r.toInts] at e
            refine .inl ⟨_, ns, rfl, .of e, ?_, fun k hk hle => ?_⟩
            · cases ns with
              | nil => cases em
              | cons a b => exact Nat.succ_pos _
            · have hm := List.max?_eq_some_iff.mp em
              have : k = m := Int.le_antisymm (hm.2 k hk) (hle m hm.1)
              rw [this]
              exact rr_fin q (.int m)
  · cases h
    cases r with
    | cons r rr =>
      cases rr with
      | cons r' rr =>
        cases rr; cases r; cases r'
        exact .inr ⟨_, _, rfl, rr_fin q (.int _)⟩
  · cases h
def allD : List D → Option D
  | [.lst ds] => (asBls ds).map fun bs => .bl (bs.all id)
  | _ => none
def anyD : List D → Option D
  | [.lst ds] => (asBls ds).map fun bs => .bl (bs.any id)
  | _ => none
theorem rc_all : RC K (rAll K) allD := fun xs d h O H vs o r Q q => by
  unfold allD at h
  split at h
  · rename_i ds
    cases e : asBls ds with
    | none => rw [e] at h; cases h
    | some ns =>
      rw [e] at h
      cases h
      cases r with
      | cons r rr =>
        cases rr
        cases r with
        | lst n e' r =>
          rw [asBls_vs r e] at e'
          exact ⟨_, ns, rfl, .of e', rr_fin q (.bl _)⟩
  · cases h
theorem rc_any : RC K (rAny K) anyD := fun xs d h O H vs o r Q q => by
  unfold anyD at h
  split at h
  · rename_i ds
    cases e : asBls ds with
    | none => rw [e] at h; cases h
    | some ns =>
      rw [e] at h
      cases h
      cases r with
      | cons r rr =>
        cases rr
        cases r with
        | lst n e' r =>
          rw [asBls_vs r e] at e'
          exact ⟨_, ns, rfl, .of e', rr_fin q (.bl _)⟩
  · cases h
/-- sorted ints -/
def srt (ns : List Int) : List Int := ns.mergeSort (fun a b => decide (a ≤ b))
theorem perm_sorted : ∀ {xs ys : List Int}, xs.Perm ys → xs.Pairwise (· ≤ ·) → ys.Pairwise (· ≤ ·) → xs = ys
  | [], ys, p, _, _ => (List.nil_perm.mp p).symm ▸ rfl
  | x :: xs, [], p, _, _ => absurd (List.perm_nil.mp p) (by simp)
  | x :: xs, y :: ys, p, h1, h2 => by
    have hx : x ∈ y :: ys := p.mem_iff.mp List.mem_cons_self
    have hy : y ∈ x :: xs := p.mem_iff.mpr List.mem_cons_self
    have h1' := List.pairwise_cons.mp h1
    have h2' := List.pairwise_cons.mp h2
    have le1 : y ≤ x := by
      rcases List.mem_cons.mp hx with e | e
      · omega
      · exact h2'.1 x e
    have le2 : x ≤ y := by
      rcases List.mem_cons.mp hy with e | e
      · omega
      · exact h1'.1 y e
    have e : x = y := Int.le_antisymm le2 le1
    subst e
    rw [perm_sorted (List.perm_cons x |>.mp p) h1'.2 h2'.2]
theorem srt_perm (ns : List Int) : (srt ns).Perm ns := List.mergeSort_perm _ _
theorem srt_sorted (ns : List Int) : (srt ns).Pairwise (· ≤ ·) := by
  have h := List.pairwise_mergeSort (le := fun a b : Int => decide (a ≤ b)) (fun a b c h1 h2 => by simp at *; omega) (fun a b => by simp; omega) ns
  exact h.imp fun q => of_decide_eq_true q
def sortedD : List D → Option D
  | [.lst ds] => (asInts ds).map fun ns => .lst (iL (srt ns))
  | [.tup ds] => (asInts ds).map fun ns => .lst (iL (srt ns))
  | _ => none
theorem rc_sorted : RC K (rSortedA K) sortedD := fun xs d h O H vs o r Q q => by
  unfold sortedD at h
  split at h
  · rename_i ds
    cases e : asInts ds with
    | none => rw [e] at h; cases h
    | some ns =>
      rw [e] at h
      cases h
      obtain rfl := asInts_iL e
      cases r with
      | cons r rr =>
        cases rr
        cases r with
        | lst n e r =>
          rw [r.toInts] at e
          refine .inl ⟨_, ns, rfl, .of e, fun ns' p h1 h2 hp => ?_⟩
          have e2 : ns' = srt ns := perm_sorted (h1.trans (srt_perm ns).symm) h2 (srt_sorted ns)
          rw [e2]
          exact rr_newL o q (RpA.ofInts _) p hp
  · rename_i ds
    cases e : asInts ds with
    | none => rw [e] at h; cases h
    | some ns =>
      rw [e] at h
      cases h
      obtain rfl := asInts_iL e
      cases r with
      | cons r rr =>
        cases rr
        cases r with
        | tup n e r =>
          rw [r.toInts] at e
          refine .inr ⟨_, ns, rfl, .of e, fun ns' p h1 h2 hp => ?_⟩
          have e2 : ns' = srt ns := perm_sorted (h1.trans (srt_perm ns).symm) h2 (srt_sorted ns)
          rw [e2]
          exact rr_newL o q (RpA.ofInts _) p hp
  · cases h
/-! ### sum of a list of ints -/
def sumD : List D → Option D
  | [.lst ds] => (asInts ds).map fun ns => .int ns.sum
  | _ => none
theorem rc_sum : RC K (rSum K) sumD := fun xs d h O H vs o r Q q => by
  unfold sumD at h
  split at h
  · rename_i ds
    cases e : asInts ds with
    | none => rw [e] at h; cases h
    | some ns =>
      rw [e] at h
      cases h
      obtain rfl := asInts_iL e
      cases r with
      | cons r rr =>
        cases rr
        cases r with
        | lst n e r =>
          rw [r.toInts] at e
          exact ⟨_, ns, rfl, .of e, rr_fin q (.int _)⟩
  · cases h
/-! ### isinstance of a built-in type -/
def tyN : D → Option String
  | .non => some "NoneType"
  | .bl _ => some "bool"
  | .int _ => some "int"
  | .str _ => some "str"
  | .lst _ => some "list"
  | .tup _ => some "tuple"
  | _ => none
theorem ty_rp {O : Addr → Prop} {H : Hp} {v : V} {d : D} {n : String} (r : Rp K O H v d) (h : tyN d = some n) : TyX K H v (.type n) := by
  cases r with
  | non => cases h; exact .base .non
  | bl b => cases h; exact .base (.bl b)
  | int b => cases h; exact .base (.int b)
  | str b => cases h; exact .base (.str b)
  | lst m e r => cases h; exact .base (.lst e)
  | tup m e r => cases h; exact .base (.tup e)
  | dct m e x r => cases h
  | scr m e => cases h
  | kscr e => cases h
  | ins m e r => cases h
  | ty n => cases h
  | cls C => cases h
def isiD : List D → Option D
  | [x, .ty T] => (tyN x).bind fun n => (kitB n T).map .bl
  | _ => none
theorem rc_isi : RC K (rIsi K) isiD := fun xs d h O H vs o r Q q => by
  unfold isiD at h
  split at h
  · rename_i x T
    cases e : tyN x with
    | none => rw [e] at h; cases h
    | some n =>
      rw [e] at h
      simp only [Option.bind_some] at h
      cases ek : kitB n T with
      | none => rw [ek] at h; cases h
      | some b =>
        rw [ek] at h
        cases h
        cases r with
        | cons r rr =>
          cases rr with
          | cons r' rr =>
            cases rr; cases r'
            exact ⟨_, _, _, _, b, rfl, .ty T, ty_rp r e, kit_ty ek, rr_fin q (.bl b)⟩
  · cases h
/-- fields of an instance -/
def fldD (C : Addr) (f : Str) : D → Option D
  | .ins C' gs => if C' = C then gs.lookup f else none
  | _ => none
theorem er_fld {ta : TE} {a : DF} {C : Addr} {f : Str} (cl : Cls K C) (na : NoAttr K C f) (ha : ER K ta a) : ER K (tFld K ta f) (d1 (fldD C f) a) := fun g d h H0 Oc pins ow σ H R Q q => by
  unfold d1 at h
  cases ea : a g with
  | none => rw [ea] at h; cases h
  | some x =>
    rw [ea] at h
    simp only [Option.bind_some] at h
    refine ha g x ea H0 Oc pins ow σ H R _ fun v H1 e1 r1 => ?_
    unfold fldD at h
    split at h
    · split at h
      · rename_i ec
        subst ec
        cases r1 with
        | ins n e r =>
          obtain ⟨w, h1, h2⟩ := r.look h
          exact ⟨_, _, _, _, w, rfl, e, cl, na, h1, q w H1 e1 h2⟩
      · cases h
    · cases h
/-- list(reversed(xs)) -/
def revD : D → Option D
  | .lst ds => some (.lst ds.reverse)
  | _ => none
theorem er_listRev {te : TE} {a : DF} (ha : ER K te a) : ER K (RT.tListRev K te) (d1 revD a) := fun g d h H0 Oc pins ow σ H R Q q => by
  unfold d1 at h
  cases ea : a g with
  | none => rw [ea] at h; cases h
  | some x =>
    rw [ea] at h
    simp only [Option.bind_some] at h
    refine ha g x ea H0 Oc pins ow σ H R _ fun v H1 e1 r1 => ?_
    unfold revD at h
    split at h
    · cases h
      cases r1 with
      | lst n e r => exact ⟨_, _, rfl, .of e, rr_newL (R.grow e1).oo (fun w H' e' r' => q w H' (e1.trans e') r') r.reverse⟩
    · cases h
end
end Zk
end

section
set_option Elab.async false
set_option linter.all false
set_option maxRecDepth 100000
set_option autoImplicit false
set_option maxHeartbeats 2000000
/-! What is walked; comprehensions; calls; statements. -/
namespace Zk
open PySem L2 PyProof.Rows
open Evl (Ex)

section
variable {K : PySem.W.Frag} {H0 H H' H1 : Hp} {Oc : Addr → Prop} {pins : Pn} {ow : OW} {σ : L2.St} {g : Gm}

/-! ### slots and owned things change -/
theorem Reps.lt (R : Reps K H0 Oc pins ow σ H g) {i : Nat} (hi : i < g.length) : i < σ.length := by rw [R.len]; exact hi
def dropW (ow : OW) (i : Nat) : OW := fun j => if j = i then none else ow j
theorem dropW_of {ow : OW} {i j : Nat} {a : Addr} (h : dropW ow i j = some a) : j ≠ i ∧ ow j = some a := by
  unfold dropW at h
  split at h
  · cases h
  · rename_i n; exact ⟨n, h⟩
theorem dropW_ne {ow : OW} {i j : Nat} (h : j ≠ i) : dropW ow i j = ow j := by
  unfold dropW
  rw [if_neg h]
def ownAt (g : Gm) (i : Nat) : Bool := match g[i]? with
  | some (some (.o _)) => true
  | _ => false
/-- slot i may be stored to: it is there, and it is not the object that a def is making -/
def okSlot (g : Gm) (i : Nat) : Bool := decide (i < g.length) && (i != 0 || !ownAt g 0)
theorem okSlot_lt {g : Gm} {i : Nat} (h : okSlot g i = true) : i < g.length := by
  unfold okSlot at h
  rw [Bool.and_eq_true] at h
  exact of_decide_eq_true h.1
theorem okSlot_me {g : Gm} {i : Nat} (h : okSlot g i = true) (R : Reps K H0 Oc pins ow σ H g) {x : Addr} (e : pins.me = some x) : 0 ≠ i := fun z => by
  unfold okSlot at h
  rw [Bool.and_eq_true] at h
  obtain ⟨d, hd⟩ := R.is 0 x (R.slf x e)
  have o : ownAt g 0 = true := by unfold ownAt; rw [hd]
  rw [o, ← z] at h
  exact absurd h.2 (by decide)
/-- slot i is given a known value -/
theorem Reps.setV (R : Reps K H0 Oc pins ow σ H g) {i : Nat} {v : V} {d : D} (hi : okSlot g i = true) (r : Rp K (OO Oc ow) H v d) : Reps K H0 Oc pins (dropW ow i) (σ.set i (some v)) H (g.set i (some (.v d))) where
  len := by rw [List.length_set, List.length_set]; exact R.len
  ex := R.ex
  oc := R.oc
  fr := fun j a h => R.fr j a (dropW_of h).2
  inj := fun j l a h h' => R.inj j l a (dropW_of h).2 (dropW_of h').2
  is := fun j a h => by
    obtain ⟨n, h⟩ := dropW_of h
    rw [List.getElem?_set_ne (Ne.symm n)]
    exact R.is j a h
  val := fun j d' h => by
    have k := R.kpDrop (ow' := dropW ow i) (fun j a z => (dropW_of z).2)
    by_cases n : j = i
    · subst n
      rw [List.getElem?_set_self (okSlot_lt hi)] at h
      cases h
      exact ⟨v, List.getElem?_set_self (R.lt (okSlot_lt hi)), r.kp k⟩
    · rw [List.getElem?_set_ne (Ne.symm n)] at h ⊢
      obtain ⟨w, h1, h2⟩ := R.val j d' h
      exact ⟨w, h1, h2.kp k⟩
  own := fun j d' h => by
    have k := R.kpDrop (ow' := dropW ow i) (fun j a z => (dropW_of z).2)
    by_cases n : j = i
    · subst n
      rw [List.getElem?_set_self (okSlot_lt hi)] at h
      cases h
    · rw [List.getElem?_set_ne (Ne.symm n)] at h ⊢
      obtain ⟨a, h1, h2, h3⟩ := R.own j d' h
      exact ⟨a, (dropW_ne n).trans h1, h2, h3.kp k rfl⟩
  pin := fun p h => (R.pin p h).kp (R.kpDrop (fun j a z => (dropW_of z).2))
  slf := fun x e => (dropW_ne (okSlot_me hi R e)).trans (R.slf x e)
/-- slot i is given a new thing of its own -/
def putW (ow : OW) (i : Nat) (p : Addr) : OW := fun j => if j = i then some p else ow j
theorem putW_of {ow : OW} {i j : Nat} {p a : Addr} (h : putW ow i p j = some a) : (j = i ∧ a = p) ∨ (j ≠ i ∧ ow j = some a) := by
  unfold putW at h
  split at h
  · rename_i n; cases h; exact .inl ⟨n, rfl⟩
  · rename_i n; exact .inr ⟨n, h⟩
theorem Reps.fresh0 (R : Reps K H0 Oc pins ow σ H g) {p : Addr} (h : H p = none) : H0 p = none := Evl.fresh_back R.ex h
theorem Reps.setO (R : Reps K H0 Oc pins ow σ H g) {i : Nat} {p : Addr} {d : D} (hi0 : okSlot g i = true) (hp : H p = none) (e : Ex H H') (r : RpO K (fun a => OO Oc ow a ∨ a = p) H' p d) :
    Reps K H0 Oc pins (putW ow i p) (σ.set i (some (.ref p))) H' (g.set i (some (.o d))) := by
  have hi := okSlot_lt hi0
  have np : ∀ j a, ow j = some a → a ≠ p := fun j a h z => by rw [z] at h; exact (R.fr j p h).2.1 hp
  have k : Kp (OO Oc ow) H (OO Oc (putW ow i p)) H' := fun a o n h => by
    refine ⟨fun z => ?_, e a o h⟩
    rcases z with z | ⟨j, z⟩
    · exact n (.inl z)
    · rcases putW_of z with ⟨_, z⟩ | ⟨_, z⟩
      · rw [z, hp] at h; cases h
      · exact n (.inr ⟨j, z⟩)
  have k2 : Kp (fun a => OO Oc ow a ∨ a = p) H' (OO Oc (putW ow i p)) H' := fun a o n h => by
    refine ⟨fun z => ?_, h⟩
    rcases z with z | ⟨j, z⟩
    · exact n (.inl (.inl z))
    · rcases putW_of z with ⟨_, z⟩ | ⟨_, z⟩
      · exact n (.inr z)
      · exact n (.inl (.inr ⟨j, z⟩))
  exact {
    len := by rw [List.length_set, List.length_set]; exact R.len
    ex := R.ex.trans e
    oc := R.oc
    fr := fun j a h => by
      rcases putW_of h with ⟨_, z⟩ | ⟨_, z⟩
      · rw [z]; exact ⟨R.fresh0 hp, r.lv⟩
      · exact ⟨(R.fr j a z).1, (R.fr j a z).2.ex e⟩
    inj := fun j l a h h' => by
      rcases putW_of h with ⟨z, y⟩ | ⟨_, z⟩
      · rcases putW_of h' with ⟨z', _⟩ | ⟨_, z'⟩
        · rw [z, z']
        · exact absurd y (np l a z')
      · rcases putW_of h' with ⟨_, y⟩ | ⟨_, z'⟩
        · exact absurd y (np j a z)
        · exact R.inj j l a z z'
    is := fun j a h => by
      rcases putW_of h with ⟨z, _⟩ | ⟨n, z⟩
      · rw [z, List.getElem?_set_self hi]; exact ⟨d, rfl⟩
      · rw [List.getElem?_set_ne (Ne.symm n)]; exact R.is j a z
    val := fun j d' h => by
      by_cases n : j = i
      · subst n
        rw [List.getElem?_set_self hi] at h
        cases h
      · rw [List.getElem?_set_ne (Ne.symm n)] at h ⊢
        obtain ⟨w, h1, h2⟩ := R.val j d' h
        exact ⟨w, h1, h2.kp k⟩
    own := fun j d' h => by
      by_cases n : j = i
      · subst n
        rw [List.getElem?_set_self hi] at h
        cases h
        exact ⟨p, by unfold putW; rw [if_pos rfl], List.getElem?_set_self (R.lt hi), r.kp k2 rfl⟩
      · rw [List.getElem?_set_ne (Ne.symm n)] at h ⊢
        obtain ⟨a, h1, h2, h3⟩ := R.own j d' h
        refine ⟨a, by unfold putW; rw [if_neg n]; exact h1, h2, h3.kp k ?_⟩
        cases y : H a with
        | none => exact absurd y h3.there
        | some o => exact e a o y
    pin := fun q h => (R.pin q h).kp k
    slf := fun x h => by unfold putW; rw [if_neg (okSlot_me hi0 R h)]; exact R.slf x h }
/-- the thing of slot i is changed -/
theorem Reps.upd (R : Reps K H0 Oc pins ow σ H g) {i : Nat} {a : Addr} {d d' : D} {o : HO} (hg : g[i]? = some (some (Wd.o d))) (ha : ow i = some a) (r : RpO K (OO Oc ow) (upd H a o) a d') :
    Reps K H0 Oc pins ow σ (L2.upd H a o) (g.set i (some (.o d'))) := by
  have hi : i < g.length := (List.getElem?_eq_some_iff.mp hg).1
  have k : Kp (OO Oc ow) H (OO Oc ow) (L2.upd H a o) := fun b u n h => ⟨n, by rw [upd_ne (fun z => n (.inr ⟨i, by rw [z]; exact ha⟩))]; exact h⟩
  exact {
    len := by rw [List.length_set]; exact R.len
    ex := Evl.Ex.mut R.ex (R.fr i a ha).1
    oc := R.oc
    fr := fun j b h => ⟨(R.fr j b h).1, by
      by_cases z : b = a
      · rw [z]; exact r.lv
      · unfold Lv; rw [upd_ne z]; exact (R.fr j b h).2⟩
    inj := R.inj
    is := fun j b h => by
      by_cases n : j = i
      · subst n
        rw [List.getElem?_set_self hi]; exact ⟨d', rfl⟩
      · rw [List.getElem?_set_ne (Ne.symm n)]; exact R.is j b h
    val := fun j e h => by
      by_cases n : j = i
      · subst n
        rw [List.getElem?_set_self hi] at h; cases h
      · rw [List.getElem?_set_ne (Ne.symm n)] at h
        obtain ⟨w, h1, h2⟩ := R.val j e h
        exact ⟨w, h1, h2.kp k⟩
    own := fun j e h => by
      by_cases n : j = i
      · subst n
        rw [List.getElem?_set_self hi] at h
        cases h
        obtain ⟨b, h1, h2, _⟩ := R.own j d hg
        rw [ha] at h1
        cases h1
        exact ⟨a, ha, h2, r⟩
      · rw [List.getElem?_set_ne (Ne.symm n)] at h
        obtain ⟨b, h1, h2, h3⟩ := R.own j e h
        exact ⟨b, h1, h2, h3.kp k (upd_ne (fun z => n (R.inj j i b h1 (by rw [z]; exact ha))))⟩
    pin := fun p h => (R.pin p h).kp k
    slf := R.slf }
def Pn.more (pins : Pn) (ps : List (V × D)) : Pn := ⟨ps ++ pins.ps, pins.me⟩
theorem Reps.morePins (R : Reps K H0 Oc pins ow σ H g) {ps : List (V × D)} (h : ∀ p ∈ ps, Rp K (OO Oc ow) H p.1 p.2) : Reps K H0 Oc (pins.more ps) ow σ H g :=
  ⟨R.len, R.ex, R.oc, R.fr, R.inj, R.is, R.val, R.own, fun p hp => (List.mem_append.mp hp).elim (h p) (R.pin p), R.slf⟩
theorem Reps.lessPins {ps : List (V × D)} (R : Reps K H0 Oc (pins.more ps) ow σ H g) : Reps K H0 Oc pins ow σ H g :=
  ⟨R.len, R.ex, R.oc, R.fr, R.inj, R.is, R.val, R.own, fun p hp => R.pin p (List.mem_append_right _ hp), R.slf⟩
end

/-! ### what a loop walks -/
abbrev DIF : Type := Gm → Option (List D)
structure WkP (K : PySem.W.Frag) (J : It) (ds : List D) (ps : List (V × D)) (Φ : Hp → Prop) : Prop where
  go : ∀ (O : Addr → Prop) (i : Nat) (H : Hp), i < ds.length → (∀ p ∈ ps, Rp K O H p.1 p.2) → Φ H → J.go i H
  yld : ∀ (O : Addr → Prop) (i : Nat) (H : Hp) (v : V) (H' : Hp) (d : D), (∀ a, O a → Lv H a) → (∀ p ∈ ps, Rp K O H p.1 p.2) → J.yld i H v H' → ds[i]? = some d → Ex H H' ∧ Rp K O H' v d
  stop : ∀ (O : Addr → Prop) (H : Hp), (∀ p ∈ ps, Rp K O H p.1 p.2) → Φ H → J.stop ds.length H
/-- .. that needs nothing but what is known -/
abbrev Wk (K : PySem.W.Frag) (J : It) (ds : List D) (ps : List (V × D)) : Prop := WkP K J ds ps fun _ => True
def IR (K : PySem.W.Frag) (wi : TI) (it : DIF) : Prop := ∀ g ds, it g = some ds → ∀ H0 Oc pins ow σ H, Reps K H0 Oc pins ow σ H g → ∀ R : It → Hp → Prop,
  (∀ J H' ps, Ex H H' → (∀ p ∈ ps, Rp K (OO Oc ow) H' p.1 p.2) → Wk K J ds ps → R J H') → wi σ H R
def itemsD : D → Option (List D)
  | .lst ds => some ds
  | .tup ds => some ds
  | .scr ns => some (iL ns)
  | _ => none
def iSeq (K : PySem.W.Frag) (te : TE) : TI := fun σ H R => iList K te σ H R ∨ iTup K te σ H R
theorem pi_or {X : Cx} {tg e : Expr} {w1 w2 : TI} (h1 : PI X tg e w1) (h2 : PI X tg e w2) : PI X tg e (fun σ H R => w1 σ H R ∨ w2 σ H R) := ⟨fun pins s σ H R I h => h.elim (h1.run pins s σ H R I) (h2.run pins s σ H R I)⟩
theorem pi_seq {X : Cx} {tg e : Expr} {te : TE} (h : PE X e te) : PI X tg e (iSeq X.K te) := pi_or (pi_list h) (pi_tup h)
def dItems (a : DF) : DIF := fun g => (a g).bind itemsD
section
variable {K : PySem.W.Frag}
theorem wk_list {a : Addr} {ds : List D} {v : V} {d : D} (hv : v = .ref a) (hd : itemsD d = some ds) (hl : ∀ (O : Addr → Prop) (H : Hp), Rp K O H v d → ∃ xs, SqL K H a xs ∧ RpA K O H xs ds) : Wk K (Itl K a) ds [(v, d)] where
  go := fun O i H hi h _ => by
    obtain ⟨xs, h1, h2⟩ := hl O H (h _ List.mem_cons_self)
    have : i < xs.length := by rw [h2.len]; exact hi
    exact ⟨xs, xs[i], h1, List.getElem?_eq_getElem this⟩
  yld := fun O i H w H' e o h y he => by
    obtain ⟨xs, h1, h2⟩ := hl O H (h _ List.mem_cons_self)
    obtain ⟨rfl, y⟩ := y
    obtain ⟨u, e1, e2⟩ := h2.get he
    have e3 := y xs h1
    rw [e1] at e3
    cases e3
    exact ⟨Evl.Ex.refl _, e2⟩
  stop := fun O H h _ => by
    obtain ⟨xs, h1, h2⟩ := hl O H (h _ List.mem_cons_self)
    exact ⟨xs, h1, by rw [h2.len]; exact Nat.le_refl _⟩
theorem wk_tup {a : Addr} {ds : List D} {v : V} {d : D} (hv : v = .ref a) (hd : itemsD d = some ds) (hl : ∀ (O : Addr → Prop) (H : Hp), Rp K O H v d → ∃ xs, SqT K H a xs ∧ RpA K O H xs ds) : Wk K (Itt K a) ds [(v, d)] where
  go := fun O i H hi h _ => by
    obtain ⟨xs, h1, h2⟩ := hl O H (h _ List.mem_cons_self)
    have : i < xs.length := by rw [h2.len]; exact hi
    exact ⟨xs, xs[i], h1, List.getElem?_eq_getElem this⟩
  yld := fun O i H w H' e o h y he => by
    obtain ⟨xs, h1, h2⟩ := hl O H (h _ List.mem_cons_self)
    obtain ⟨rfl, y⟩ := y
    obtain ⟨u, e1, e2⟩ := h2.get he
    have e3 := y xs h1
    rw [e1] at e3
    cases e3
    exact ⟨Evl.Ex.refl _, e2⟩
  stop := fun O H h _ => by
    obtain ⟨xs, h1, h2⟩ := hl O H (h _ List.mem_cons_self)
    exact ⟨xs, h1, by rw [h2.len]; exact Nat.le_refl _⟩
theorem ir_seq {te : TE} {a : DF} (ha : ER K te a) : IR K (iSeq K te) (dItems a) := fun g ds h H0 Oc pins ow σ H R Q q => by
  unfold dItems at h
  cases ea : a g with
  | none => rw [ea] at h; cases h
  | some x =>
    rw [ea] at h
    simp only [Option.bind_some] at h
    cases x <;> first | (cases h; done) | skip
    · cases h
      refine .inl (ha g _ ea H0 Oc pins ow σ H R _ fun v H1 e1 r1 => ?_)
      have r0 := r1
      cases r1 with
      | @lst a xs _ n e r => exact ⟨a, rfl, ⟨_, .of e⟩, q _ H1 _ e1 (fun p hp => by rw [List.mem_singleton.mp hp]; exact r0) (wk_list rfl rfl fun O H r => by cases r with | lst n e r => exact ⟨_, .of e, r⟩)⟩
    · cases h
      refine .inr (ha g _ ea H0 Oc pins ow σ H R _ fun v H1 e1 r1 => ?_)
      have r0 := r1
      have w : ∀ a, Wk K (Itt K a) ds [(.ref a, .tup ds)] := fun a => wk_tup rfl rfl fun O H r => by
        cases r with
        | tup n e r => exact ⟨_, .of e, r⟩
      cases r1 with
      | @tup a xs _ n e r => exact ⟨a, rfl, ⟨_, .of e⟩, q _ H1 _ e1 (fun p hp => by rw [List.mem_singleton.mp hp]; exact r0) (w a)⟩
    · rename_i ns
      cases h
      refine .inl (ha g _ ea H0 Oc pins ow σ H R _ fun v H1 e1 r1 => ?_)
      have r0 := r1
      have w : ∀ a, Wk K (Itl K a) (iL ns) [(.ref a, .scr ns)] := fun a => wk_list rfl rfl fun O H r => by
        cases r with
        | scr n e => exact ⟨_, .inl e, RpA.ofInts ns⟩
        | kscr e => exact ⟨_, e H, RpA.ofInts ns⟩
      cases r1 with
      | @scr a _ n e => exact ⟨a, rfl, ⟨_, .inl e⟩, q _ H1 _ e1 (fun p hp => by rw [List.mem_singleton.mp hp]; exact r0) (w a)⟩
      | @kscr a _ e => exact ⟨a, rfl, ⟨_, e H1⟩, q _ H1 _ e1 (fun p hp => by rw [List.mem_singleton.mp hp]; exact r0) (w a)⟩
/-- ranges -/
def rngL (lo : Int) (n : Nat) : List D := (List.range n).map fun i => .int (lo + (i : Nat))
theorem wk_rng (lo : Int) (n : Nat) : Wk K (Itr lo n) (rngL lo n) [] where
  go := fun O i H hi h _ => by unfold rngL at hi; rw [List.length_map, List.length_range] at hi; exact hi
  yld := fun O i H w H' e o h y he => by
    obtain ⟨rfl, rfl⟩ := y
    unfold rngL at he
    rw [List.getElem?_map] at he
    have hi : i < n := by
      cases z : (List.range n)[i]? with
      | none => rw [z] at he; cases he
      | some j => have := (List.getElem?_eq_some_iff.mp z).1; rw [List.length_range] at this; exact this
    rw [List.getElem?_range hi] at he
    cases he
    exact ⟨Evl.Ex.refl _, .int _⟩
  stop := fun O H h _ => by unfold rngL; rw [List.length_map, List.length_range]; exact Nat.le_refl _
def dRng1 (a : DAF) : DIF := fun g => (a g).bind fun xs => match xs with
  | [.int n] => if n ≤ 1000000 ∧ -1000000 ≤ n then some (rngL 0 n.toNat) else none
  | _ => none
def dRng2 (a : DAF) : DIF := fun g => (a g).bind fun xs => match xs with
  | [.int i, .int j] => if (i ≤ 1000000 ∧ -1000000 ≤ i) ∧ j ≤ 1000000 ∧ -1000000 ≤ j then some (rngL i (j - i).toNat) else none
  | _ => none
theorem ir_rng1 {ta : TA} {a : DAF} (ha : AR K ta a) : IR K (iRng1 ta) (dRng1 a) := fun g ds h H0 Oc pins ow σ H R Q q => by
  unfold dRng1 at h
  cases ea : a g with
  | none => rw [ea] at h; cases h
  | some x =>
    rw [ea] at h
    simp only [Option.bind_some] at h
    split at h
    · rename_i n
      split at h
      · rename_i hn
        cases h
        refine ha g _ ea H0 Oc pins ow σ H R _ fun vs H1 e1 r1 => ?_
        cases r1 with
        | cons r rr =>
          cases rr; cases r
          exact ⟨n, rfl, by omega, by omega, q _ H1 [] e1 (fun p hp => by cases hp) (wk_rng 0 _)⟩
      · cases h
    · cases h
theorem ir_rng2 {ta : TA} {a : DAF} (ha : AR K ta a) : IR K (iRng2 ta) (dRng2 a) := fun g ds h H0 Oc pins ow σ H R Q q => by
  unfold dRng2 at h
  cases ea : a g with
  | none => rw [ea] at h; cases h
  | some x =>
    rw [ea] at h
    simp only [Option.bind_some] at h
    split at h
    · rename_i i j
      split at h
      · rename_i hn
        cases h
        refine ha g _ ea H0 Oc pins ow σ H R _ fun vs H1 e1 r1 => ?_
        cases r1 with
        | cons r rr =>
          cases rr with
          | cons r' rr =>
            cases rr; cases r; cases r'
            exact ⟨i, j, rfl, ⟨by omega, by omega, by omega, by omega⟩, q _ H1 [] e1 (fun p hp => by cases hp) (wk_rng i _)⟩
      · cases h
    · cases h
/-- enumerate(a list) -/
def enumL : Nat → List D → List D
  | _, [] => []
  | n, d :: ds => .tup [.int (n : Int), d] :: enumL (n + 1) ds
theorem enumL_len : ∀ (n : Nat) (ds : List D), (enumL n ds).length = ds.length
  | _, [] => rfl
  | n, d :: ds => congrArg (· + 1) (enumL_len (n + 1) ds)
theorem enumL_get : ∀ (n : Nat) (ds : List D) (i : Nat) (e : D), (enumL n ds)[i]? = some e → ∃ d, ds[i]? = some d ∧ e = .tup [.int ((n + i : Nat) : Int), d]
  | _, [], i, e, h => by simp [enumL] at h
  | n, d :: ds, 0, e, h => by
    simp [enumL] at h
    exact ⟨d, rfl, h.symm⟩
  | n, d :: ds, i + 1, e, h => by
    have h : (enumL (n + 1) ds)[i]? = some e := h
    obtain ⟨d', h1, h2⟩ := enumL_get (n + 1) ds i e h
    exact ⟨d', h1, by rw [h2]; have : n + 1 + i = n + (i + 1) := by omega
                      rw [this]⟩
def dEnum (a : DAF) : DIF := fun g => (a g).bind fun xs => match xs with
  | [.lst ds] => some (enumL 0 ds)
  | [.tup ds] => some (enumL 0 ds)
  | _ => none
theorem wk_enum {a : Addr} {ds : List D} : Wk K (Ite K a) (enumL 0 ds) [(.ref a, .lst ds)] where
  go := fun O i H hi h _ => by
    have r := h _ List.mem_cons_self
    cases r with
    | @lst _ xs _ n e r =>
      rw [enumL_len] at hi
      have : i < xs.length := by rw [r.len]; exact hi
      exact ⟨xs, xs[i], .of e, List.getElem?_eq_getElem this⟩
  yld := fun O i H w H' e o h y he => by
    have r := h _ List.mem_cons_self
    cases r with
    | @lst _ xs _ n e r =>
      obtain ⟨T, x, rfl, hT, rfl, y⟩ := y
      obtain ⟨d, h1, rfl⟩ := enumL_get 0 ds i _ he
      obtain ⟨u, e1, e2⟩ := r.get h1
      have e3 := y xs (.of e)
      rw [e1] at e3
      cases e3
      have ex := Evl.Ex.new (o := .tup [.int (i : Nat), x]) hT
      rw [Nat.zero_add]
      exact ⟨ex, .tup (fun z => (o T z).1 hT) upd_same (.cons (.int _) (.cons (e2.ex ex) .nil))⟩
  stop := fun O H h _ => by
    have r := h _ List.mem_cons_self
    cases r with
    | lst n e r =>
      rw [enumL_len]
      exact ⟨_, .of e, by rw [r.len]; exact Nat.le_refl _⟩
theorem wk_enumT {a : Addr} {ds : List D} : Wk K (TS.IteT K a) (enumL 0 ds) [(.ref a, .tup ds)] where
  go := fun O i H hi h _ => by
    have r := h _ List.mem_cons_self
    cases r with
    | @tup _ xs _ n e r =>
      rw [enumL_len] at hi
      have : i < xs.length := by rw [r.len]; exact hi
      exact ⟨xs, xs[i], .of e, List.getElem?_eq_getElem this⟩
  yld := fun O i H w H' e o h y he => by
    have r := h _ List.mem_cons_self
    cases r with
    | @tup _ xs _ n e r =>
      obtain ⟨T, x, rfl, hT, rfl, y⟩ := y
      obtain ⟨d, h1, rfl⟩ := enumL_get 0 ds i _ he
      obtain ⟨u, e1, e2⟩ := r.get h1
      have e3 := y xs (.of e)
      rw [e1] at e3
      cases e3
      have ex := Evl.Ex.new (o := .tup [.int (i : Nat), x]) hT
      rw [Nat.zero_add]
      exact ⟨ex, .tup (fun z => (o T z).1 hT) upd_same (.cons (.int _) (.cons (e2.ex ex) .nil))⟩
  stop := fun O H h _ => by
    have r := h _ List.mem_cons_self
    cases r with
    | tup n e r =>
      rw [enumL_len]
      exact ⟨_, .of e, by rw [r.len]; exact Nat.le_refl _⟩
theorem ir_enum {ta : TA} {a : DAF} (ha : AR K ta a) : IR K (TS.iEnumA K ta) (dEnum a) := fun g ds h H0 Oc pins ow σ H R Q q => by
  unfold dEnum at h
  cases ea : a g with
  | none => rw [ea] at h; cases h
  | some x =>
    rw [ea] at h
    simp only [Option.bind_some] at h
    split at h
    · cases h
      refine ha g _ ea H0 Oc pins ow σ H R _ fun vs H1 e1 r1 => ?_
      cases r1 with
      | cons r rr =>
        have r0 := r
        cases rr
        cases r with
        | @lst a xs _ n e r => exact .inl ⟨a, xs, rfl, .of e, q _ H1 _ e1 (fun p hp => by rw [List.mem_singleton.mp hp]; exact r0) wk_enum⟩
    · cases h
      refine ha g _ ea H0 Oc pins ow σ H R _ fun vs H1 e1 r1 => ?_
      cases r1 with
      | cons r rr =>
        have r0 := r
        cases rr
        cases r with
        | @tup a xs _ n e r => exact .inr ⟨a, xs, rfl, .of e, q _ H1 _ e1 (fun p hp => by rw [List.mem_singleton.mp hp]; exact r0) wk_enumT⟩
    · cases h
end

/-! ### targets -/
abbrev DGF : Type := D → Gm → Option Gm
abbrev DGFs : Type := List D → Gm → Option Gm
def GR (K : PySem.W.Frag) (tg : TG) (f : DGF) : Prop := ∀ d g g', f d g = some g' → ∀ H0 Oc pins ow σ H v, Reps K H0 Oc pins ow σ H g → Rp K (OO Oc ow) H v d → ∀ Q : L2.St → Hp → Prop, (∀ ow' σ', Reps K H0 Oc pins ow' σ' H g' → Q σ' H) → tg v σ H Q
def GRs (K : PySem.W.Frag) (tg : TGs) (f : DGFs) : Prop := ∀ ds g g', f ds g = some g' → ∀ H0 Oc pins ow σ H vs, Reps K H0 Oc pins ow σ H g → RpA K (OO Oc ow) H vs ds → ∀ Q : L2.St → Hp → Prop, (∀ ow' σ', Reps K H0 Oc pins ow' σ' H g' → Q σ' H) → tg vs σ H Q
def dName (i : Nat) : DGF := fun d g => if okSlot g i = true then some (g.set i (some (.v d))) else none
section
variable {K : PySem.W.Frag}
theorem gr_name (i : Nat) : GR K (gName i) (dName i) := fun d g g' h H0 Oc pins ow σ H v R r Q q => by
  unfold dName at h
  split at h
  · rename_i hi
    cases h
    exact q _ _ (R.setV hi r)
  · cases h
def dgNil : DGFs := fun ds g => match ds with
  | [] => some g
  | _ => none
def dgCons (f : DGF) (r : DGFs) : DGFs := fun ds g => match ds with
  | d :: ds => (f d g).bind fun g1 => r ds g1
  | [] => none
theorem grs_nil : GRs K gNil dgNil := fun ds g g' h H0 Oc pins ow σ H vs R r Q q => by
  unfold dgNil at h
  split at h
  · cases h; cases r
    exact ⟨rfl, q ow σ R⟩
  · cases h
end
/-- flat or kept: a value known ahead of a target's store is known behind it -/
theorem RpA.keepFrz {K : PySem.W.Frag} {O O' : Addr → Prop} {H : Hp} {vs : List V} {ds : List D} (r : RpA K O H vs ds) (k : Kp O H O' H) : RpA K O' H vs ds := r.kp k
section
variable {K : PySem.W.Frag}
/-- targets drop what their slots owned, no more: said with the owners told -/
def GR' (K : PySem.W.Frag) (tg : TG) (f : DGF) : Prop := ∀ d g g', f d g = some g' → ∀ H0 Oc pins ow σ H v, Reps K H0 Oc pins ow σ H g → Rp K (OO Oc ow) H v d → ∀ Q : L2.St → Hp → Prop,
  (∀ ow' σ', (∀ i a, ow' i = some a → ow i = some a) → Reps K H0 Oc pins ow' σ' H g' → Q σ' H) → tg v σ H Q
def GRs' (K : PySem.W.Frag) (tg : TGs) (f : DGFs) : Prop := ∀ ds g g', f ds g = some g' → ∀ H0 Oc pins ow σ H vs, Reps K H0 Oc pins ow σ H g → RpA K (OO Oc ow) H vs ds → ∀ Q : L2.St → Hp → Prop,
  (∀ ow' σ', (∀ i a, ow' i = some a → ow i = some a) → Reps K H0 Oc pins ow' σ' H g' → Q σ' H) → tg vs σ H Q
theorem gr'_name (i : Nat) : GR' K (gName i) (dName i) := fun d g g' h H0 Oc pins ow σ H v R r Q q => by
  unfold dName at h
  split at h
  · rename_i hi
    cases h
    exact q _ _ (fun j a z => (dropW_of z).2) (R.setV hi r)
  · cases h
theorem grs'_nil : GRs' K gNil dgNil := fun ds g g' h H0 Oc pins ow σ H vs R r Q q => by
  unfold dgNil at h
  split at h
  · cases h; cases r
    exact ⟨rfl, q ow σ (fun _ _ z => z) R⟩
  · cases h
theorem grs'_cons {t : TG} {u : TGs} {f : DGF} {r : DGFs} (h1 : GR' K t f) (h2 : GRs' K u r) : GRs' K (gCons t u) (dgCons f r) := fun ds g g' h H0 Oc pins ow σ H vs R rr Q q => by
  unfold dgCons at h
  split at h
  · rename_i d ds
    cases e : f d g with
    | none => rw [e] at h; cases h
    | some g1 =>
      rw [e] at h
      simp only [Option.bind_some] at h
      cases rr with
      | cons a b =>
        refine ⟨_, _, rfl, h1 d g g1 e H0 Oc pins ow σ H _ R a _ fun ow1 σ1 k1 R1 => ?_⟩
        exact h2 ds g1 g' h H0 Oc pins ow1 σ1 H _ R1 (b.kp (R.kpDrop k1)) Q fun ow2 σ2 k2 R2 => q ow2 σ2 (fun i a z => k1 i a (k2 i a z)) R2
  · cases h
def dgTup (n : Nat) (r : DGFs) : DGF := fun d g => match d with
  | .tup ds => if ds.length = n then r ds g else none
  | _ => none
theorem gr'_tup {n : Nat} {u : TGs} {r : DGFs} (h2 : GRs' K u r) : GR' K (gTup K n u) (dgTup n r) := fun d g g' h H0 Oc pins ow σ H v R rr Q q => by
  unfold dgTup at h
  split at h
  · split at h
    · rename_i ds hn
      cases rr with
      | tup m e x => exact ⟨_, _, rfl, .of e, by rw [x.len]; exact hn, h2 ds g g' h H0 Oc pins ow σ H _ R x Q q⟩
    · cases h
  · cases h
end
end Zk
end

section
set_option Elab.async false
set_option linter.all false
set_option maxRecDepth 100000
set_option autoImplicit false
set_option maxHeartbeats 2000000
/-! Comprehensions; statements; loops; a def's promise. -/
namespace Zk
open PySem L2 PyProof.Rows
open Evl (Ex)

/-! ### what comes out of statements -/
inductive Out where
  | nx (g : Gm) | bk (g : Gm) | ct (g : Gm) | rt (w : Wd)
abbrev SF : Type := Gm → Option Out
def Post (K : PySem.W.Frag) (H0 : Hp) (Oc : Addr → Prop) (pins : Pn) (De : Ends) : Out → Prop
  | .nx g => ∀ ow σ H, Reps K H0 Oc pins ow σ H g → De.nx σ H
  | .bk g => ∀ ow σ H, Reps K H0 Oc pins ow σ H g → De.bk σ H
  | .ct g => ∀ ow σ H, Reps K H0 Oc pins ow σ H g → De.ct σ H
  | .rt (.v d) => ∀ v H, Ex H0 H → Rp K Oc H v d → De.rt v H
  | .rt (.o d) => ∀ p H, Ex H0 H → H0 p = none → RpO K (fun a => Oc a ∨ a = p) H p d → De.rt (.ref p) H
def SR (K : PySem.W.Frag) (ts : TS) (t : SF) : Prop := ∀ g out, t g = some out → ∀ H0 Oc pins ow σ H, Reps K H0 Oc pins ow σ H g → ∀ De : Ends, Post K H0 Oc pins De out → ts De σ H
/-- an expression that makes a thing of one's own -/
def EO (K : PySem.W.Frag) (te : TE) (t : DF) : Prop := ∀ g d, t g = some d → ∀ H0 Oc pins ow σ H, Reps K H0 Oc pins ow σ H g → ∀ Q : VK, (∀ p H', Ex H H' → H p = none → RpO K (fun a => OO Oc ow a ∨ a = p) H' p d → Q (.ref p) H') → te σ H Q

section
variable {K : PySem.W.Frag} {ta tb te : TE} {a b : DF} {ts tu : TS} {s u : SF} {tt : TT} {t : DTF}
theorem eo_lst {tr : TA} {s : DAF} (ha : AR K tr s) : EO K (tLst tr) (dN mkLst s) := fun g d h H0 Oc pins ow σ H R Q q => by
  unfold dN at h
  cases ea : s g with
  | none => rw [ea] at h; cases h
  | some x =>
    rw [ea] at h
    unfold mkLst at h
    simp only [Option.bind_some] at h
    split at h
    · rename_i hl
      cases h
      refine ha g x ea H0 Oc pins ow σ H R _ fun v H1 e1 r1 => ⟨by rw [r1.len]; exact Evl.sz_of hl, fun p hp => ?_⟩
      have e2 := Evl.Ex.new (o := .lst v) hp
      refine q _ _ (e1.trans e2) (Evl.fresh_back e1 hp) ⟨v, upd_same, r1.kp fun b o n e => ⟨fun z => ?_, e2 b o e⟩⟩
      rcases z with z | z
      · exact n z
      · rw [z, hp] at e; cases e
    · cases h
theorem eo_list {ta : TE} {a : DF} (ha : ER K ta a) : EO K (tCB (rListOf K) (tCons ta tNil)) (dN listD (aCons a aNil)) := fun g d h H0 Oc pins ow σ H R Q q => by
  unfold dN aCons aNil at h
  cases ea : a g with
  | none => rw [ea] at h; cases h
  | some x =>
    rw [ea] at h
    simp only [Option.bind_some] at h
    refine ha g x ea H0 Oc pins ow σ H R _ fun v H1 e1 r1 => ?_
    have fin : ∀ {xs : List V} {ds : List D}, RpA K (OO Oc ow) H1 xs ds → ∀ l, H1 l = none → d = .lst ds → Q (.ref l) (upd H1 l (.lst xs)) := fun {xs ds} r l hl hd => by
      have e2 := Evl.Ex.new (o := .lst xs) hl
      rw [hd] at q
      refine q _ _ (e1.trans e2) (Evl.fresh_back e1 hl) ⟨xs, upd_same, r.kp fun b o n e => ⟨fun z => ?_, e2 b o e⟩⟩
      rcases z with z | z
      · exact n z
      · rw [z, hl] at e; cases e
    unfold listD at h
    split at h
    · rename_i ds z
      cases z
      cases h
      cases r1 with
      | lst n e r => exact ⟨_, _, rfl, .inl (.of e), fun l hl => fin r l hl rfl⟩
    · rename_i ds z
      cases z
      cases h
      cases r1 with
      | tup n e r => exact ⟨_, _, rfl, .inr (.of e), fun l hl => fin r l hl rfl⟩
    · cases h

/-! ### comprehensions -/
/-- the comprehension's items -/
def lcL (tg : DGF) (tt : DTF) (te : DF) (g : Gm) : List D → Option (List D)
  | [] => some []
  | d :: ds => (tg d g).bind fun g1 => (tt g1).bind fun b => if b = true then (te g1).bind fun e => (lcL tg tt te g ds).map (e :: ·) else lcL tg tt te g ds
def free (g : Gm) (vs : List Nat) : Bool := vs.all fun v => !ownAt g v
def wipeG (g : Gm) : List Nat → Gm
  | [] => g
  | v :: vs => (wipeG g vs).set v none
def dLc (it : DIF) (tg : DGF) (tt : DTF) (te : DF) (vs : List Nat) : DF := fun g => if free g vs = true then (it g).bind fun ds => if ds.length ≤ 100000 then (lcL tg tt te (wipeG g vs) ds).map .lst else none else none
def dYes : DTF := fun _ => some true
theorem tr_yes : TR K tYes dYes := fun g b h H0 Oc pins ow σ H R Q q => by cases h; exact q H (Evl.Ex.refl H)
theorem wipe_get (σ : L2.St) : ∀ (vs : List Nat) (i : Nat), (L2.wipe σ vs)[i]? = if i ∈ vs then (if i < σ.length then some none else none) else σ[i]?
  | [], i => by simp [L2.wipe]
  | v :: vs, i => by
    show ((L2.wipe σ vs).set v none)[i]? = _
    rw [List.getElem?_set, L2.wipe_length, wipe_get σ vs i]
    by_cases h : v = i
    · subst h
      simp
    · rw [if_neg h]
      have : (i ∈ v :: vs) = (i ∈ vs) := by
        rw [List.mem_cons]
        exact propext ⟨fun q => q.resolve_left (fun z => h z.symm), .inr⟩
      simp only [this]
theorem wipe_set (σ τ : L2.St) (vs : List Nat) {j : Nat} {x : Option V} (hj : j ∈ vs) (h : L2.wipe τ vs = L2.wipe σ vs) : L2.wipe (τ.set j x) vs = L2.wipe σ vs := by
  rw [← h]
  apply List.ext_getElem?
  intro i
  rw [wipe_get, wipe_get]
  by_cases hi : i ∈ vs
  · rw [if_pos hi, if_pos hi, List.length_set]
  · rw [if_neg hi, if_neg hi, List.getElem?_set_ne (fun z => hi (by rw [← z]; exact hj))]
theorem wipe_wipe (σ : L2.St) (vs : List Nat) : L2.wipe (L2.wipe σ vs) vs = L2.wipe σ vs := by
  apply List.ext_getElem?
  intro i
  rw [wipe_get, wipe_get]
  by_cases hi : i ∈ vs
  · rw [if_pos hi, if_pos hi, L2.wipe_length]
  · rw [if_neg hi, if_neg hi]
theorem wipeG_length (g : Gm) : ∀ vs : List Nat, (wipeG g vs).length = g.length
  | [] => rfl
  | v :: vs => by unfold wipeG; rw [List.length_set, wipeG_length g vs]
theorem wipeG_get (g : Gm) : ∀ (vs : List Nat) (i : Nat), (wipeG g vs)[i]? = if i ∈ vs then (if i < g.length then some none else none) else g[i]?
  | [], i => by simp [wipeG]
  | v :: vs, i => by
    show ((wipeG g vs).set v none)[i]? = _
    rw [List.getElem?_set, wipeG_length, wipeG_get g vs i]
    by_cases h : v = i
    · subst h
      simp
    · rw [if_neg h]
      have : (i ∈ v :: vs) = (i ∈ vs) := by
        rw [List.mem_cons]
        exact propext ⟨fun q => q.resolve_left (fun z => h z.symm), .inr⟩
      simp only [this]
theorem free_at {g : Gm} {vs : List Nat} (h : free g vs = true) {v : Nat} (hv : v ∈ vs) (d : D) : g[v]? ≠ some (some (.o d)) := fun e => by
  have := List.all_eq_true.mp h v hv
  unfold ownAt at this
  rw [e] at this
  cases this
theorem wipeG_not {g : Gm} {vs : List Nat} {v : Nat} (hv : v ∈ vs) (d : Wd) : (wipeG g vs)[v]? ≠ some (some d) := fun e => by
  rw [wipeG_get, if_pos hv] at e
  split at e <;> cases e
theorem Reps.wipe {H0 H : Hp} {Oc : Addr → Prop} {pins : Pn} {ow : OW} {σ : L2.St} {g : Gm} (R : Reps K H0 Oc pins ow σ H g) {vs : List Nat} (hf : free g vs = true) : Reps K H0 Oc pins ow (L2.wipe σ vs) H (wipeG g vs) where
  len := by rw [L2.wipe_length, wipeG_length]; exact R.len
  ex := R.ex
  oc := R.oc
  fr := R.fr
  inj := R.inj
  is := fun i a h => by
    obtain ⟨d, e⟩ := R.is i a h
    have : i ∉ vs := fun z => free_at hf z d e
    rw [wipeG_get, if_neg this]
    exact ⟨d, e⟩
  val := fun i d h => by
    have : i ∉ vs := fun z => wipeG_not z _ h
    rw [wipeG_get, if_neg this] at h
    rw [wipe_get, if_neg this]
    exact R.val i d h
  own := fun i d h => by
    have : i ∉ vs := fun z => wipeG_not z _ h
    rw [wipeG_get, if_neg this] at h
    rw [wipe_get, if_neg this]
    exact R.own i d h
  pin := R.pin
  slf := R.slf
/-- a target that stores into the comprehension's own slots alone -/
def GRc (K : PySem.W.Frag) (tg : TG) (f : DGF) (vs : List Nat) : Prop := ∀ d g g', (∀ v ∈ vs, ∀ d', g[v]? ≠ some (some (Wd.o d'))) → f d g = some g' → ∀ H0 Oc pins ow σ H v, Reps K H0 Oc pins ow σ H g → Rp K (OO Oc ow) H v d → ∀ Q : L2.St → Hp → Prop,
  (∀ σ', Reps K H0 Oc pins ow σ' H g' → L2.wipe σ' vs = L2.wipe σ vs → (∀ v ∈ vs, ∀ d', g'[v]? ≠ some (some (Wd.o d'))) → Q σ' H) → tg v σ H Q
theorem dropW_id {H0 H : Hp} {Oc : Addr → Prop} {pins : Pn} {ow : OW} {σ : L2.St} {g : Gm} (R : Reps K H0 Oc pins ow σ H g) {j : Nat} (h : ∀ d', g[j]? ≠ some (some (Wd.o d'))) : dropW ow j = ow := by
  funext i
  unfold dropW
  split
  · rename_i e
    cases q : ow i with
    | none => rfl
    | some a =>
      obtain ⟨d, hd⟩ := R.is i a q
      rw [e] at hd
      exact absurd hd (h d)
  · rfl
theorem grc_name {j : Nat} {vs : List Nat} (hj : j ∈ vs) : GRc K (gName j) (dName j) vs := fun d g g' hn h H0 Oc pins ow σ H v R r Q q => by
  unfold dName at h
  split at h
  · rename_i hi
    cases h
    have R1 := R.setV hi r
    rw [dropW_id R (hn j hj)] at R1
    refine q _ R1 (wipe_set σ σ vs hj rfl) fun w hw d' z => ?_
    by_cases e : w = j
    · rw [e, List.getElem?_set_self (okSlot_lt hi)] at z; cases z
    · rw [List.getElem?_set_ne (Ne.symm e)] at z; exact hn w hw d' z
  · cases h
theorem grc_tup2 {i j : Nat} {vs : List Nat} (hi : i ∈ vs) (hj : j ∈ vs) : GRc K (gTup K 2 (gCons (gName i) (gCons (gName j) gNil))) (dgTup 2 (dgCons (dName i) (dgCons (dName j) dgNil))) vs := fun d g g' hn h H0 Oc pins ow σ H v R r Q q => by
  unfold dgTup at h
  split at h
  · rename_i ds
    split at h
    · rename_i hl
      match ds, hl with
      | [d1, d2], _ =>
        have h : ((dName i d1 g).bind fun g1 => (dName j d2 g1).bind fun g2 => some g2) = some g' := h
        cases e1 : dName i d1 g with
        | none => rw [e1] at h; cases h
        | some g1 =>
          rw [e1] at h
          cases e2 : dName j d2 g1 with
          | none => simp [e2] at h
          | some g2 =>
            simp only [Option.bind_some, e2] at h
            cases h
            have fin : ∀ (a : Addr) xs, SqT K H a xs → RpA K (OO Oc ow) H xs [d1, d2] → gTup K 2 (gCons (gName i) (gCons (gName j) gNil)) (.ref a) σ H Q := fun a xs hs x => by
              cases x with
              | cons x1 xr =>
                cases xr with
                | cons x2 xr =>
                  cases xr
                  exact ⟨_, _, rfl, hs, rfl, _, _, rfl, grc_name hi d1 g g1 hn e1 H0 Oc pins ow σ H _ R x1 _ fun σ1 R1 w1 hn1 =>
                    ⟨_, _, rfl, grc_name hj d2 g1 g' hn1 e2 H0 Oc pins ow σ1 H _ R1 x2 _ fun σ2 R2 w2 hn2 => ⟨rfl, q σ2 R2 (w2.trans w1) hn2⟩⟩⟩
            cases r with
            | tup m e x => exact fin _ _ (.of e) x
    · cases h
  · cases h
open Classical in
theorem Reps.rebase {H0 H H2 : Hp} {Oc : Addr → Prop} {pins : Pn} {ow : OW} {σ : L2.St} {g : Gm} {Dl : Addr} (R : Reps K H0 Oc pins ow σ H g) (hD : H Dl = none) (e : Ex H H2) (h2 : Lv H2 Dl) :
    ∃ B, Reps K B (fun a => Oc a ∨ a = Dl) pins ow σ H2 g := by
  have k : Kp (OO Oc ow) H (OO (fun a => Oc a ∨ a = Dl) ow) H2 := fun a o n h => ⟨fun z => by
    rcases z with (z | z) | z
    · exact n (.inl z)
    · rw [z, hD] at h; cases h
    · exact n (.inr z), e a o h⟩
  refine ⟨fun b => if ∃ i, ow i = some b then none else H2 b, ?_⟩
  exact {
    len := R.len
    ex := fun a o h => by
      have h : (if ∃ i, ow i = some a then none else H2 a) = some o := h
      split at h
      · cases h
      · exact h
    oc := fun a h => by
      have nw : ¬ ∃ i, ow i = some a := fun ⟨i, z⟩ => by
        rcases h with h | h
        · exact (R.oc a h).1 (R.fr i a z).1
        · rw [h] at z; exact (R.fr i Dl z).2.1 hD
      show (if ∃ i, ow i = some a then none else H2 a) ≠ none ∧ ∀ xs, (if ∃ i, ow i = some a then none else H2 a) ≠ some (.tup xs)
      rw [if_neg nw]
      rcases h with h | h
      · exact (R.oo a (.inl h)).ex e
      · rw [h]; exact h2
    fr := fun i a h => ⟨if_pos ⟨i, h⟩, (R.fr i a h).2.ex e⟩
    inj := R.inj
    is := R.is
    val := fun i d h => let ⟨v, h1, h2⟩ := R.val i d h; ⟨v, h1, h2.kp k⟩
    own := fun i d h => let ⟨a, h1, h2, h3⟩ := R.own i d h; ⟨a, h1, h2, h3.kp k (by
      cases y : H a with
      | none => exact absurd y h3.there
      | some o => exact e a o y)⟩
    pin := fun p h => (R.pin p h).kp k
    slf := R.slf }
/-- the comprehension, at the new list's place -/
theorem lc_go {J : It} {tg : TG} {f : DGF} {tte : TT} {ft : DTF} {tee : TE} {fe : DF} {vs : List Nat} {ds es : List D} {ps : List (V × D)} {H0 H1 : Hp} {Oc : Addr → Prop} {pins : Pn} {ow : OW} {σ : L2.St} {g : Gm} {Q : VK}
    {Φ : Hp → Prop} (hw : WkP K J ds ps Φ) (hg : GRc K tg f vs) (ht : TR K tte ft) (he : ER K tee fe) (R : Reps K H0 Oc pins ow σ H1 g) (hf : free g vs = true) (hps : ∀ p ∈ ps, Rp K (OO Oc ow) H1 p.1 p.2)
    (hz : ds.length ≤ 100000) (h : lcL f ft fe (wipeG g vs) ds = some es) (hΦ : ∀ H, Ex H1 H → Φ H) (hq : ∀ p H', H1 p = none → Ex H1 H' → RpO K (fun a => OO Oc ow a ∨ a = p) H' p (.lst es) → Q (.ref p) H') :
    ∀ Dl, H1 Dl = none → ∃ W : Nat → Nat → Hp → Prop, (∃ m, W 0 m (L2.upd H1 Dl (.lst []))) ∧ ∀ i m H, W i m H →
      (J.stop i H ∧ Q (.ref Dl) H) ∨ (J.go i H ∧ ∃ Nx : Hp → Prop, (∀ H', Nx H' → ∃ m', m' < m ∧ W (i + 1) m' H') ∧ ∀ x H', J.yld i H x H' → tg x (L2.wipe σ vs) H' fun σ2 H2 => L2.wipe σ2 vs = L2.wipe σ vs ∧ tte σ2 H2 fun b H3 =>
        if b = true then tee σ2 H3 fun y H4 => ∃ acc, H4 Dl = some (.lst acc) ∧ acc.length < sizeLine ∧ Nx (L2.upd H4 Dl (.lst (acc ++ [y]))) else Nx H3) := by
  intro Dl hD
  have oeq : ∀ a, OO (fun a => Oc a ∨ a = Dl) ow a ↔ (OO Oc ow a ∨ a = Dl) := fun a =>
    ⟨fun z => z.elim (fun z => z.elim (fun z => .inl (.inl z)) .inr) (fun z => .inl (.inr z)), fun z => z.elim (fun z => z.elim (fun z => .inl (.inl z)) (fun z => .inr z)) (fun z => .inl (.inr z))⟩
  -- what is held between turns: made so far
  let P : Nat → Hp → Prop := fun i H => ∃ acc done_ rest, Ex H1 H ∧ H Dl = some (.lst acc) ∧ RpA K (OO (fun a => Oc a ∨ a = Dl) ow) H acc done_ ∧ lcL f ft fe (wipeG g vs) (ds.drop i) = some rest ∧ es = done_ ++ rest ∧ done_.length ≤ i
  refine ⟨fun i m H => m = ds.length - i ∧ i ≤ ds.length ∧ P i H, ⟨ds.length, rfl, Nat.zero_le _, ⟨[], [], es, Evl.Ex.new hD, upd_same, .nil, h, rfl, Nat.le_refl _⟩⟩, ?_⟩
  rintro i m H ⟨rfl, hi, ⟨acc, dn, rest, e1, hl, ra, hr, hes, hln⟩⟩
  obtain ⟨B, RB⟩ := R.rebase hD e1 ⟨by rw [hl]; exact fun z => (by cases z), by rw [hl]; exact fun _ z => (by cases z)⟩
  have kps : ∀ p ∈ ps, Rp K (OO (fun a => Oc a ∨ a = Dl) ow) H p.1 p.2 := fun p hp => (hps p hp).kp fun a o n q => ⟨fun z => (by
    rcases (oeq a).mp z with z | z
    · exact n z
    · rw [z, hD] at q; cases q), e1 a o q⟩
  by_cases hlt : i < ds.length
  · refine .inr ⟨hw.go _ i H hlt kps (hΦ H e1), fun H' => P (i + 1) H', fun H' p => ⟨ds.length - (i + 1), by omega, rfl, hlt, p⟩, fun x H' y => ?_⟩
    have hd : ds[i]? = some ds[i] := List.getElem?_eq_getElem hlt
    obtain ⟨e2, rx⟩ := hw.yld _ i H x H' ds[i] RB.oo kps y hd
    have hdrop : ds.drop i = ds[i] :: ds.drop (i + 1) := by rw [List.drop_eq_getElem_cons hlt]
    rw [hdrop] at hr
    unfold lcL at hr
    cases e3 : f ds[i] (wipeG g vs) with
    | none => rw [e3] at hr; cases hr
    | some g1 =>
      rw [e3] at hr
      simp only [Option.bind_some] at hr
      cases e4 : ft g1 with
      | none => rw [e4] at hr; cases hr
      | some b =>
        rw [e4] at hr
        simp only [Option.bind_some] at hr
        have RW := ((RB.grow e2).wipe hf)
        refine hg ds[i] (wipeG g vs) g1 (fun v hv d' => wipeG_not hv _) e3 B _ pins ow _ H' x RW rx _ fun σ2 R2 w2 _ => ⟨w2.trans (wipe_wipe σ vs), ?_⟩
        refine ht g1 b e4 B _ pins ow σ2 H' R2 _ fun H3 e5 => ?_
        cases b with
        | true =>
          rw [if_pos rfl] at hr ⊢
          cases e6 : fe g1 with
          | none => rw [e6] at hr; cases hr
          | some e =>
            rw [e6] at hr
            simp only [Option.bind_some] at hr
            cases e7 : lcL f ft fe (wipeG g vs) (ds.drop (i + 1)) with
            | none => rw [e7] at hr; cases hr
            | some rest' =>
              rw [e7] at hr
              have hr2 : e :: rest' = rest := Option.some.inj hr
              refine he g1 e e6 B _ pins ow σ2 H3 (R2.grow e5) _ fun yv H4 e8 ry => ?_
              have hl4 : H4 Dl = some (.lst acc) := e8 _ _ (e5 _ _ (e2 _ _ hl))
              have k4 : Kp (OO (fun a => Oc a ∨ a = Dl) ow) H4 (OO (fun a => Oc a ∨ a = Dl) ow) (L2.upd H4 Dl (.lst (acc ++ [yv]))) := fun a o n q => ⟨n, by
                rw [upd_ne (fun z => n ((oeq a).mpr (.inr z)))]; exact q⟩
              refine ⟨acc, hl4, Evl.sz_lt (by rw [ra.len]; omega), ⟨acc ++ [yv], dn ++ [e], rest', Evl.Ex.mut (((e1.trans e2).trans e5).trans e8) hD, upd_same, ?_, e7, ?_, ?_⟩⟩
              · exact RpA.app ((((ra.ex e2).ex e5).ex e8).kp k4) (.one (ry.kp k4))
              · rw [hes, ← hr2, List.append_assoc]; rfl
              · rw [List.length_append, List.length_singleton]; omega
        | false =>
          rw [if_neg Bool.false_ne_true] at hr ⊢
          exact ⟨acc, dn, rest, (e1.trans e2).trans e5, e5 _ _ (e2 _ _ hl), (ra.ex e2).ex e5, hr, hes, by omega⟩
  · have hi2 : i = ds.length := by omega
    subst hi2
    refine .inl ⟨hw.stop _ H kps (hΦ H e1), ?_⟩
    rw [List.drop_length] at hr
    have hr' : rest = [] := (Option.some.inj hr).symm
    rw [hr', List.append_nil] at hes
    refine hq Dl H hD e1 ⟨acc, hl, ?_⟩
    rw [hes]
    exact ra.kp fun a o n q => ⟨fun z => n ((oeq a).mpr z), q⟩
theorem eo_lc {wi : TI} {it : DIF} {tg : TG} {f : DGF} {tte : TT} {ft : DTF} {tee : TE} {fe : DF} {vs : List Nat} (hi : IR K wi it) (hg : GRc K tg f vs) (ht : TR K tte ft) (he : ER K tee fe) : EO K (tLc wi tg tte tee vs) (dLc it f ft fe vs) := fun g d h H0 Oc pins ow σ H R Q q => by
  unfold dLc at h
  split at h
  · rename_i hf
    cases ei : it g with
    | none => rw [ei] at h; cases h
    | some ds =>
      rw [ei] at h
      simp only [Option.bind_some] at h
      split at h
      · rename_i hz
        cases el : lcL f ft fe (wipeG g vs) ds with
        | none => rw [el] at h; cases h
        | some es =>
          rw [el] at h
          cases h
          exact hi g ds ei H0 Oc pins ow σ H R _ fun J H1 ps e1 hps hw => lc_go hw hg ht he (R.grow e1) hf hps hz el (fun _ _ => trivial) fun p H' hp e' r => q p H' (e1.trans e') (Evl.fresh_back e1 hp) r
      · cases h
  · cases h
theorem er_of_eo (h : EO K te a) : ER K te a := fun g d e H0 Oc pins ow σ H R Q q => h g d e H0 Oc pins ow σ H R Q fun p H' e' hp r => q _ H' e' (by
  have n : ¬ OO Oc ow p := R.new hp
  cases d with
  | lst ds => obtain ⟨xs, h, r⟩ := r; exact .lst n h (r.kp fun a o z q => ⟨fun y => z (.inl y), q⟩)
  | ins C gs => obtain ⟨dx, fs, h, r⟩ := r; exact .ins n h (r.kp fun a o z q => ⟨fun y => z (.inl y), q⟩)
  | dct kvs => obtain ⟨xs, h, e1, r⟩ := r; exact .dct n h e1 (r.kp fun a o z q => ⟨fun y => z (.inl y), q⟩)
  | _ => exact r.elim)
end
end Zk
end

section
set_option Elab.async false
set_option linter.all false
set_option maxRecDepth 100000
set_option autoImplicit false
set_option maxHeartbeats 2000000
/-! Statements, loops, a def's promise, calls. -/
namespace Zk
open PySem L2 PyProof.Rows
open Evl (Ex)

section
variable {K : PySem.W.Frag} {ta tb te : TE} {a b : DF} {ts tu : TS} {s u : SF} {tt : TT} {t : DTF}
def sAsg (a : DF) (f : DGF) : SF := fun g => (a g).bind fun d => (f d g).map .nx
theorem sr_asg {tg : TG} {f : DGF} (ha : ER K te a) (hg : GR' K tg f) : SR K (tAsg te tg) (sAsg a f) := fun g out h H0 Oc pins ow σ H R De P => by
  unfold sAsg at h
  cases ea : a g with
  | none => rw [ea] at h; cases h
  | some d =>
    rw [ea] at h
    simp only [Option.bind_some] at h
    cases ef : f d g with
    | none => rw [ef] at h; cases h
    | some g1 =>
      rw [ef] at h
      cases h
      exact ha g d ea H0 Oc pins ow σ H R _ fun v H1 e1 r1 => hg d g g1 ef H0 Oc pins ow σ H1 v (R.grow e1) r1 _ fun ow' σ' _ R' => P ow' σ' H1 R'
/-- a slot is given a new thing of one's own -/
def sAsgO (a : DF) (i : Nat) : SF := fun g => (a g).bind fun d => if okSlot g i = true then some (.nx (g.set i (some (.o d)))) else none
theorem sr_asgO {i : Nat} (ha : EO K te a) : SR K (tAsg te (gName i)) (sAsgO a i) := fun g out h H0 Oc pins ow σ H R De P => by
  unfold sAsgO at h
  cases ea : a g with
  | none => rw [ea] at h; cases h
  | some d =>
    rw [ea] at h
    simp only [Option.bind_some] at h
    split at h
    · rename_i hi
      cases h
      exact ha g d ea H0 Oc pins ow σ H R _ fun p H1 e1 hp r1 => P _ _ H1 (R.setO hi hp e1 r1)
    · cases h
def sNext : SF := fun g => some (.nx g)
theorem sr_next : SR K tNext sNext := fun g out h H0 Oc pins ow σ H R De P => by cases h; exact P ow σ H R
def sBreak : SF := fun g => some (.bk g)
theorem sr_break : SR K tBreak sBreak := fun g out h H0 Oc pins ow σ H R De P => by cases h; exact P ow σ H R
def sCont : SF := fun g => some (.ct g)
theorem sr_cont : SR K tCont sCont := fun g out h H0 Oc pins ow σ H R De P => by cases h; exact P ow σ H R
def sNever : SF := fun _ => none
theorem sr_never : SR K tNever sNever := fun g out h => by cases h
def sThen (o : Out) (u : SF) : Option Out := match o with
  | .nx g => u g
  | .bk g => some (.bk g)
  | .ct g => some (.ct g)
  | .rt w => some (.rt w)
def sSeq (s u : SF) : SF := fun g => (s g).bind fun o => sThen o u
theorem sr_seq (h1 : SR K ts s) (h2 : SR K tu u) : SR K (tSeq ts tu) (sSeq s u) := fun g out h H0 Oc pins ow σ H R De P => by
  unfold sSeq at h
  cases e1 : s g with
  | none => rw [e1] at h; cases h
  | some o =>
    rw [e1] at h
    simp only [Option.bind_some] at h
    refine h1 g o e1 H0 Oc pins ow σ H R _ ?_
    cases o with
    | nx g1 => exact fun ow' σ' H' R' => h2 g1 out h H0 Oc pins ow' σ' H' R' De P
    | bk g1 => cases h; exact P
    | ct g1 => cases h; exact P
    | rt w =>
      cases h
      cases w with
      | v d => exact P
      | o d => exact P
def sRet (a : DF) : SF := fun g => (a g).map fun d => .rt (.v d)
theorem kp_oc (Oc : Addr → Prop) (ow : OW) (H : Hp) : Kp (OO Oc ow) H Oc H := fun a o n e => ⟨fun z => n (.inl z), e⟩
theorem sr_ret (ha : ER K te a) : SR K (tRet te) (sRet a) := fun g out h H0 Oc pins ow σ H R De P => by
  unfold sRet at h
  cases ea : a g with
  | none => rw [ea] at h; cases h
  | some d =>
    rw [ea] at h
    cases h
    exact ha g d ea H0 Oc pins ow σ H R _ fun v H1 e1 r1 => P v H1 (R.ex.trans e1) (r1.kp (kp_oc Oc ow H1))
def sRetO (a : DF) : SF := fun g => (a g).map fun d => .rt (.o d)
theorem sr_retO (ha : EO K te a) : SR K (tRet te) (sRetO a) := fun g out h H0 Oc pins ow σ H R De P => by
  unfold sRetO at h
  cases ea : a g with
  | none => rw [ea] at h; cases h
  | some d =>
    rw [ea] at h
    cases h
    exact ha g d ea H0 Oc pins ow σ H R _ fun p H1 e1 hp r1 => P p H1 (R.ex.trans e1) (R.fresh0 hp) (r1.kp (fun b o n q => ⟨fun z => n (z.imp .inl id), q⟩) rfl)
/-- return x, x a list of one's own -/
def sRetV (i : Nat) : SF := fun g => match g[i]? with
  | some (some (.o d)) => some (.rt (.o d))
  | _ => none
theorem sr_retV (i : Nat) : SR K (tRet (tVar i)) (sRetV i) := fun g out h H0 Oc pins ow σ H R De P => by
  unfold sRetV at h
  split at h
  · rename_i d hd
    cases h
    obtain ⟨p, h1, h2, h3⟩ := R.own i d hd
    refine ⟨.ref p, h2, P p H R.ex (R.fr i p h1).1 (h3.kp (fun b o n q => ⟨fun z => ?_, q⟩) rfl)⟩
    rcases z with z | z
    · exact n (.inl z)
    · exact n (.inr ⟨i, by rw [z]; exact h1⟩)
  · cases h
def sRetN : SF := fun _ => some (.rt (.v .non))
theorem sr_retN : SR K tRetN sRetN := fun g out h H0 Oc pins ow σ H R De P => by cases h; exact P .non H R.ex .non
def sIf (t : DTF) (s u : SF) : SF := fun g => (t g).bind fun b => if b = true then s g else u g
theorem sr_if (ht : TR K tt t) (h1 : SR K ts s) (h2 : SR K tu u) : SR K (tIfS tt ts tu) (sIf t s u) := fun g out h H0 Oc pins ow σ H R De P => by
  unfold sIf at h
  cases ea : t g with
  | none => rw [ea] at h; cases h
  | some b =>
    rw [ea] at h
    simp only [Option.bind_some] at h
    refine ht g b ea H0 Oc pins ow σ H R _ fun H1 e1 => ?_
    cases b with
    | true =>
      rw [if_pos rfl] at h ⊢
      exact h1 g out h H0 Oc pins ow σ H1 (R.grow e1) De P
    | false =>
      rw [if_neg Bool.false_ne_true] at h ⊢
      exact h2 g out h H0 Oc pins ow σ H1 (R.grow e1) De P
def sDrop (a : DF) : SF := fun g => (a g).map fun _ => .nx g
theorem sr_drop (ha : ER K te a) : SR K (tDrop te) (sDrop a) := fun g out h H0 Oc pins ow σ H R De P => by
  unfold sDrop at h
  cases ea : a g with
  | none => rw [ea] at h; cases h
  | some d =>
    rw [ea] at h
    cases h
    exact ha g d ea H0 Oc pins ow σ H R _ fun v H1 e1 r1 => P ow σ H1 (R.grow e1)
/-- owned things read by name are handed on: known from here on -/
def sFrz (fz : List Nat) (s : SF) : SF := fun g => s (frzs g fz)
theorem sr_frz (fz : List Nat) (h1 : SR K ts s) : SR K ts (sFrz fz s) := fun g out h H0 Oc pins ow σ H R De P => by
  obtain ⟨ow', R'⟩ := R.frzs fz
  exact h1 _ out h H0 Oc pins ow' σ H R' De P
/-- xs.append(e) -/
def sApp (i : Nat) (a : DF) : SF := fun g => (a g).bind fun d => match g[i]? with
  | some (some (.o (.lst ds))) => if ds.length < 100000 then some (.nx (g.set i (some (.o (.lst (ds ++ [d])))))) else none
  | _ => none
theorem sr_app {i : Nat} (ha : ER K te a) : SR K (tDrop (tBM K "list" rAppend (tVar i) (tCons te tNil))) (sApp i a) := fun g out h H0 Oc pins ow σ H R De P => by
  unfold sApp at h
  cases ea : a g with
  | none => rw [ea] at h; cases h
  | some d =>
    rw [ea] at h
    simp only [Option.bind_some] at h
    split at h
    · rename_i ds hd
      split at h
      · rename_i hl
        cases h
        obtain ⟨p, h1, h2, xs, h3, h4⟩ := R.own i _ hd
        refine ⟨.ref p, h2, .inl ⟨rfl, _, .of h3⟩, ?_⟩
        refine ha g d ea H0 Oc pins ow σ H R _ fun v H1 e1 r1 => ?_
        have k : Kp (OO Oc ow) H1 (OO Oc ow) (upd H1 p (.lst (xs ++ [v]))) := fun b o n q => ⟨n, by rw [upd_ne (fun z => n (.inr ⟨i, by rw [z]; exact h1⟩))]; exact q⟩
        refine ⟨p, xs, v, rfl, rfl, e1 _ _ h3, Evl.sz_lt (by rw [h4.len]; exact hl), P ow σ _ ((R.grow e1).upd hd h1 ⟨xs ++ [v], upd_same, RpA.app ((h4.ex e1).kp k) (.one (r1.kp k))⟩)⟩
      · cases h
    · cases h
/-- xs[i] = e -/
def sSetI (i : Nat) (b : DF) (a : DF) : SF := fun g => (a g).bind fun d => (b g).bind fun x => match x, g[i]? with
  | .int k, some (some (.o (.lst ds))) => (ixN ds.length k).map fun j => .nx (g.set i (some (.o (.lst (ds.set j d)))))
  | _, _ => none
theorem sr_setI {i : Nat} (hb : ER K tb b) (ha : ER K te a) : SR K (tAsg te (gSub (tVar i) tb rSetL)) (sSetI i b a) := fun g out h H0 Oc pins ow σ H R De P => by
  unfold sSetI at h
  cases ea : a g with
  | none => rw [ea] at h; cases h
  | some d =>
    rw [ea] at h
    simp only [Option.bind_some] at h
    cases eb : b g with
    | none => rw [eb] at h; cases h
    | some x =>
      rw [eb] at h
      simp only [Option.bind_some] at h
      split at h
      · rename_i k ds hd
        cases ej : ixN ds.length k with
        | none => rw [ej] at h; cases h
        | some j =>
          rw [ej] at h
          cases h
          obtain ⟨p, h1, h2, xs, h3, h4⟩ := R.own i _ hd
          refine ha g d ea H0 Oc pins ow σ H R _ fun v H1 e1 r1 => ⟨.ref p, h2, ?_⟩
          refine hb g _ eb H0 Oc pins ow σ H1 (R.grow e1) _ fun w H2 e2 r2 => ?_
          cases r2
          have k' : Kp (OO Oc ow) H2 (OO Oc ow) (upd H2 p (.lst (xs.set j v))) := fun b o n q => ⟨n, by rw [upd_ne (fun z => n (.inr ⟨i, by rw [z]; exact h1⟩))]; exact q⟩
          exact ⟨p, xs, k, j, rfl, rfl, e2 _ _ (e1 _ _ h3), by rw [h4.len]; exact ej, P ow σ _ (((R.grow e1).grow e2).upd hd h1 ⟨xs.set j v, upd_same, RpA.set ((r1.ex e2).kp k') j (((h4.ex e1).ex e2).kp k')⟩)⟩
      · cases h
/-- self.f = e -/
def putD (f : Str) (d : D) : List (Str × D) → List (Str × D)
  | [] => [(f, d)]
  | (n, e) :: r => if n = f then (n, d) :: r else (n, e) :: putD f d r
theorem RpF.put {O : Addr → Prop} {H : Hp} {f : Str} {v : V} {d : D} (r : Rp K O H v d) : ∀ {fs : List (Str × V)} {gs : List (Str × D)}, RpF K O H fs gs → RpF K O H (putF f v fs) (putD f d gs)
  | _, _, .nil => .cons r .nil
  | _, _, .cons (n := n) h t => by
    unfold putF putD
    by_cases e : n = f
    · rw [if_pos e, if_pos e]; exact .cons r t
    · rw [if_neg e, if_neg e]; exact .cons h (t.put r)
theorem RpF.len {O : Addr → Prop} {H : Hp} : ∀ {fs : List (Str × V)} {gs : List (Str × D)}, RpF K O H fs gs → fs.length = gs.length
  | _, _, .nil => rfl
  | _, _, .cons _ t => congrArg (· + 1) t.len
def sFldD (C : Addr) (i : Nat) (f : Str) (a : DF) : SF := fun g => (a g).bind fun d => match g[i]? with
  | some (some (.o (.ins C' gs))) => if C' = C ∧ gs.length < 1000 then some (.nx (g.set i (some (.o (.ins C (putD f d gs)))))) else none
  | _ => none
theorem sr_fld {C : Addr} {i : Nat} {f : Str} (cl : Cls K C) (na : NoAttr K C f) (ha : ER K te a) : SR K (sFld K (tVar i) te f) (sFldD C i f a) := fun g out h H0 Oc pins ow σ H R De P => by
  unfold sFldD at h
  cases ea : a g with
  | none => rw [ea] at h; cases h
  | some d =>
    rw [ea] at h
    simp only [Option.bind_some] at h
    split at h
    · rename_i C' gs hd
      split at h
      · rename_i hc
        obtain ⟨rfl, hl⟩ := hc
        cases h
        obtain ⟨p, h1, h2, dx, fs, h3, h4⟩ := R.own i _ hd
        refine ha g d ea H0 Oc pins ow σ H R _ fun v H1 e1 r1 => ⟨.ref p, h2, p, C', dx, fs, rfl, e1 _ _ h3, cl, na, by rw [h4.len]; exact hl, ?_⟩
        have k : Kp (OO Oc ow) H1 (OO Oc ow) (upd H1 p (.ins C' dx (putF f v fs))) := fun b o n q => ⟨n, by rw [upd_ne (fun z => n (.inr ⟨i, by rw [z]; exact h1⟩))]; exact q⟩
        exact P ow σ _ ((R.grow e1).upd hd h1 ⟨dx, putF f v fs, upd_same, RpF.put (r1.kp k) ((h4.ex e1).kp k)⟩)
      · cases h
    · cases h
/-! ### for -/
def loopD (f : DGF) (s : SF) : List D → SF
  | [], g => some (.nx g)
  | d :: ds, g => (f d g).bind fun g1 => (s g1).bind fun o => match o with
    | .nx g2 => loopD f s ds g2
    | .ct g2 => loopD f s ds g2
    | .bk g2 => some (.nx g2)
    | .rt w => some (.rt w)
def sFor (it : DIF) (f : DGF) (s : SF) : SF := fun g => (it g).bind fun ds => loopD f s ds g
theorem sr_for {wi : TI} {it : DIF} {tg : TG} {f : DGF} (hi : IR K wi it) (hg : GR' K tg f) (hs : SR K ts s) : SR K (tFor wi tg ts) (sFor it f s) := fun g out h H0 Oc pins ow σ H R De P => by
  unfold sFor at h
  cases ei : it g with
  | none => rw [ei] at h; cases h
  | some ds =>
    rw [ei] at h
    simp only [Option.bind_some] at h
    refine hi g ds ei H0 Oc pins ow σ H R _ fun J H1 ps e1 hps hw => ?_
    let Pv : Nat → L2.St → Hp → Prop := fun i σ' H' => ∃ ow' g', Reps K H0 Oc (pins.more ps) ow' σ' H' g' ∧ loopD f s (ds.drop i) g' = some out
    refine ⟨fun i m σ' H' => m = ds.length - i ∧ i ≤ ds.length ∧ Pv i σ' H', ⟨ds.length, rfl, Nat.zero_le _, ⟨ow, g, (R.grow e1).morePins hps, h⟩⟩, ?_⟩
    rintro i m σ' H' ⟨rfl, hi, ⟨ow', g', R', hl⟩⟩
    have kps : ∀ p ∈ ps, Rp K (OO Oc ow') H' p.1 p.2 := fun p hp => R'.pin p (List.mem_append_left _ hp)
    by_cases hlt : i < ds.length
    · refine .inr ⟨hw.go _ i H' hlt kps trivial, Pv (i + 1), fun σ2 H2 p => ⟨ds.length - (i + 1), by omega, rfl, hlt, p⟩, fun x H2 y => ?_⟩
      have hd : ds[i]? = some ds[i] := List.getElem?_eq_getElem hlt
      obtain ⟨e2, rx⟩ := hw.yld _ i H' x H2 ds[i] R'.oo kps y hd
      rw [show ds.drop i = ds[i] :: ds.drop (i + 1) from List.drop_eq_getElem_cons hlt] at hl
      unfold loopD at hl
      cases e3 : f ds[i] g' with
      | none => rw [e3] at hl; cases hl
      | some g1 =>
        rw [e3] at hl
        simp only [Option.bind_some] at hl
        cases e4 : s g1 with
        | none => rw [e4] at hl; cases hl
        | some o =>
          rw [e4] at hl
          simp only [Option.bind_some] at hl
          refine hg ds[i] g' g1 e3 H0 Oc _ ow' σ' H2 x (R'.grow e2) rx _ fun ow2 σ2 _ R2 => ?_
          refine hs g1 o e4 H0 Oc _ ow2 σ2 H2 R2 _ ?_
          cases o with
          | nx g2 => exact fun ow3 σ3 H3 R3 => ⟨ow3, g2, R3, hl⟩
          | ct g2 => exact fun ow3 σ3 H3 R3 => ⟨ow3, g2, R3, hl⟩
          | bk g2 =>
            cases hl
            exact fun ow3 σ3 H3 R3 => P ow3 σ3 H3 R3.lessPins
          | rt w =>
            cases hl
            cases w with
            | v d => exact P
            | o d => exact P
    · have e : i = ds.length := by omega
      subst e
      refine .inl ⟨hw.stop _ H' kps trivial, ?_⟩
      rw [List.drop_length] at hl
      cases hl
      exact P ow' σ' H' R'.lessPins
end

/-! ### a def's promise -/
def Wd.d : Wd → D
  | .v d => d
  | .o d => d
def Ret (K : PySem.W.Frag) (H0 : Hp) (Oc : Addr → Prop) (Q : VK) : Wd → Prop
  | .v d => ∀ v H, Ex H0 H → Rp K Oc H v d → Q v H
  | .o d => ∀ p H, Ex H0 H → H0 p = none → RpO K (fun a => Oc a ∨ a = p) H p d → Q (.ref p) H
abbrev PF : Type := List D → Option Wd
def spG (K : PySem.W.Frag) (n : Nat) (gf : PF) : Sp := fun vs H Q _ => ∃ (Oc : Addr → Prop) (ds : List D) (w : Wd), vs.length = n ∧ (∀ a, Oc a → Lv H a) ∧ RpA K Oc H vs ds ∧ gf ds = some w ∧ Ret K H Oc Q w
def runG (m : Nat) (t : SF) : PF := fun ds => match t (ds.map (fun d => some (.v d)) ++ List.replicate m none) with
  | some (.rt w) => some w
  | some (.nx _) => some (.v .non)
  | _ => none
theorem reps_start {K : PySem.W.Frag} {H : Hp} {Oc : Addr → Prop} (oc : ∀ a, Oc a → Lv H a) (N : List Str) {vs : List V} {ds : List D} (r : RpA K Oc H vs ds) {m : Nat} (hm : N.length = vs.length + m) :
    Reps K H Oc ⟨[], none⟩ noOw (L2.start N vs) H (ds.map (fun d => some (.v d)) ++ List.replicate m none) where
  len := by
    unfold L2.start
    simp only [List.length_append, List.length_map, List.length_replicate]
    have := r.len
    omega
  ex := Evl.Ex.refl H
  oc := oc
  fr := fun i a h => by cases h
  inj := fun i j a h => by cases h
  is := fun i a h => by cases h
  val := fun i d h => by
    have k : Kp Oc H (OO Oc noOw) H := fun a o n e => ⟨fun z => z.elim n fun ⟨i, z⟩ => (by cases z), e⟩
    have hi : i < ds.length := by
      by_cases hi : i < ds.length
      · exact hi
      · rw [List.getElem?_append_right (by simp; omega)] at h
        rw [List.getElem?_replicate] at h
        split at h <;> cases h
    rw [List.getElem?_append_left (by simp; exact hi), List.getElem?_map] at h
    cases e : ds[i]? with
    | none => rw [e] at h; cases h
    | some d' =>
      rw [e] at h
      cases h
      obtain ⟨v, h1, h2⟩ := r.get e
      refine ⟨v, ?_, h2.kp k⟩
      unfold L2.start
      have : i < vs.length := by rw [r.len]; exact hi
      rw [List.getElem?_append_left (by simp; exact this), List.getElem?_map, h1]
      rfl
  own := fun i d h => by
    have hi : ¬ i < ds.length := fun hi => by
      rw [List.getElem?_append_left (by simp; exact hi), List.getElem?_map] at h
      cases e : ds[i]? with
      | none => rw [e] at h; cases h
      | some d' => rw [e] at h; cases h
    rw [List.getElem?_append_right (by simp; omega)] at h
    rw [List.getElem?_replicate] at h
    split at h <;> cases h
  pin := fun p h => by cases h
  slf := fun x h => by cases h
section
variable {P : Program} {w : World} {K : PySem.W.Frag} {mg : Str → Option Value} {base : Heap}
theorem fnG {x qual : Str} {st : Stmt} {f : Addr} {fd : FuncData} {N ps : List Str} {k n m : Nat} {t : SF} (F : Fun K x qual st f fd) (S : FnScope N ps (defScope st)) (hn : n = ps.length) (hm : N.length = n + m)
    (hb : ∀ (cdv : Value) (A : Around) (outer : List Env) (s : Shared) (H : Hp) (E : XK), Room k (A.deeper (envOfC qual (defScope st) s.heap.objs.size f cdv)) → ∃ ts, PSs (cxOf CX0 P w K mg base N qual (defScope st) f cdv A outer s H E).nox (defBody st) ts ∧ SR K ts t) : FnOk P w K mg base CX0 (k + 1) f fd ps (spG K n (runG m t)) := by
  subst hn
  refine F.ok S (fun vs H Q E h => ?_) (fun cdv A outer s H vs Q E hr h => ?_)
  · obtain ⟨_, _, _, h, _⟩ := h
    exact h
  · obtain ⟨Oc, ds, wd, hl, oc, r, hg, q⟩ := h
    obtain ⟨ts, hts, hs⟩ := hb cdv A outer s H E hr
    refine ⟨ts, hts, ?_⟩
    have R := reps_start oc N r (m := m) (by rw [hl]; exact hm)
    unfold runG at hg
    split at hg
    · rename_i w' e
      cases hg
      refine hs _ _ e H Oc _ noOw _ H R _ ?_
      cases wd with
      | v d => exact q
      | o d => exact q
    · rename_i g e
      cases hg
      exact hs _ _ e H Oc _ noOw _ H R _ fun ow σ H' R' => q .non H' R'.ex .non
    · cases hg
theorem FnOk.gf {f : Addr} {fd : FuncData} {ps : List Str} {k n : Nat} {gf gf' : PF} (F : FnOk P w K mg base CX0 k f fd ps (spG K n gf)) (h : ∀ ds w, gf' ds = some w → gf ds = some w) : FnOk P w K mg base CX0 k f fd ps (spG K n gf') :=
  F.imp fun vs H Q E ⟨Oc, ds, w, h1, h2, h3, h4, h5⟩ => ⟨Oc, ds, w, h1, h2, h3, h ds w h4, h5⟩
end
section
variable {K : PySem.W.Frag}
def dCall (n : Nat) (gf : PF) (a : DAF) : DF := fun g => (a g).bind fun ds => if ds.length = n then (gf ds).map Wd.d else none
theorem RpO.toRp {O : Addr → Prop} {H : Hp} {p : Addr} {d : D} (n : ¬ O p) (r : RpO K (fun a => O a ∨ a = p) H p d) : Rp K O H (.ref p) d := r.rp (fun b o m q => ⟨fun z => m (.inl z), q⟩) n
theorem er_call {n : Nat} {gf : PF} {E : XK} {ta : TA} {a : DAF} (ha : AR K ta a) : ER K (tCall (spG K n gf) [] E ta) (dCall n gf a) := fun g d h H0 Oc pins ow σ H R Q q => by
  unfold dCall at h
  cases ea : a g with
  | none => rw [ea] at h; cases h
  | some ds =>
    rw [ea] at h
    simp only [Option.bind_some] at h
    split at h
    · rename_i hn
      cases ew : gf ds with
      | none => rw [ew] at h; cases h
      | some wd =>
        rw [ew] at h
        cases h
        refine ha g ds ea H0 Oc pins ow σ H R _ fun vs H1 e1 r1 => ?_
        refine ⟨OO Oc ow, ds, wd, by rw [List.append_nil, r1.len]; exact hn, (R.grow e1).oo, by rw [List.append_nil]; exact r1, ew, ?_⟩
        cases wd with
        | v d => exact fun v H2 e2 r2 => q v H2 (e1.trans e2) r2
        | o d => exact fun p H2 e2 hp r2 => q _ H2 (e1.trans e2) (r2.toRp ((R.grow e1).new hp))
    · cases h
def dCallO (n : Nat) (gf : PF) (a : DAF) : DF := fun g => (a g).bind fun ds => if ds.length = n then (match gf ds with
  | some (.o d) => some d
  | _ => none) else none
theorem eo_call {n : Nat} {gf : PF} {E : XK} {ta : TA} {a : DAF} (ha : AR K ta a) : EO K (tCall (spG K n gf) [] E ta) (dCallO n gf a) := fun g d h H0 Oc pins ow σ H R Q q => by
  unfold dCallO at h
  cases ea : a g with
  | none => rw [ea] at h; cases h
  | some ds =>
    rw [ea] at h
    simp only [Option.bind_some] at h
    split at h
    · rename_i hn
      split at h
      · rename_i d' ew
        cases h
        refine ha g ds ea H0 Oc pins ow σ H R _ fun vs H1 e1 r1 => ?_
        exact ⟨OO Oc ow, ds, .o d, by rw [List.append_nil, r1.len]; exact hn, (R.grow e1).oo, by rw [List.append_nil]; exact r1, ew, fun p H2 e2 hp r2 => q p H2 (e1.trans e2) (Evl.fresh_back e1 hp) r2⟩
      · cases h
    · cases h
/-! ### __init__ and C(..) -/
def spI (K : PySem.W.Frag) (C : Addr) (n : Nat) (gf : List D → Option (List (Str × D))) : Sp := fun vs H Q _ => ∃ (H0 : Hp) (Oc : Addr → Prop) (x dx : Addr) (as : List V) (ds : List D) (gs : List (Str × D)),
  vs = .ref x :: as ∧ as.length = n ∧ H0 x = none ∧ H0 dx = none ∧ dx ≠ x ∧ H = upd (upd H0 dx (.own x)) x (.ins C dx []) ∧ (∀ a, Oc a → Lv H0 a) ∧ RpA K Oc H0 as ds ∧ gf ds = some gs ∧
  ∀ H', Ex H0 H' → RpO K (fun a => Oc a ∨ a = x) H' x (.ins C gs) → Q .non H'
def runI (C : Addr) (m : Nat) (t : SF) : List D → Option (List (Str × D)) := fun ds => match t (some (.o (.ins C [])) :: (ds.map (fun d => some (.v d)) ++ List.replicate m none)) with
  | some (.nx (some (.o (.ins C' gs)) :: _)) => if C' = C then some gs else none
  | _ => none
theorem ex_made {H0 : Hp} {x dx C : Addr} (hx : H0 x = none) (hd : H0 dx = none) : Ex H0 (upd (upd H0 dx (.own x)) x (.ins C dx [])) := fun a o e => by
  rw [upd_ne (ne_of_none e hx), upd_ne (ne_of_none e hd)]
  exact e
theorem reps_init {H0 : Hp} {Oc : Addr → Prop} {C x dx : Addr} (hx : H0 x = none) (hd : H0 dx = none) (oc : ∀ a, Oc a → Lv H0 a) (N : List Str) {as : List V} {ds : List D} (r : RpA K Oc H0 as ds) {m : Nat} (hm : N.length = as.length + 1 + m) :
    Reps K H0 Oc ⟨[], some x⟩ (fun i => if i = 0 then some x else none) (L2.start N (.ref x :: as)) (upd (upd H0 dx (.own x)) x (.ins C dx [])) (some (.o (.ins C [])) :: (ds.map (fun d => some (.v d)) ++ List.replicate m none)) := by
  have R := reps_start oc (N.drop 1) r (m := m) (by rw [List.length_drop]; omega)
  have e0 : L2.start N (.ref x :: as) = some (.ref x) :: L2.start (N.drop 1) as := by
    unfold L2.start
    simp only [List.map_cons, List.length_cons, List.cons_append, List.length_drop]
    congr 3
    omega
  rw [e0]
  have ex := ex_made (C := C) hx hd
  have ow0 : ∀ {i : Nat} {a : Addr}, (if i = 0 then some x else none) = some a → i = 0 ∧ a = x := fun {i a} h => by
    split at h
    · cases h; exact ⟨by assumption, rfl⟩
    · cases h
  have k : Kp (OO Oc noOw) H0 (OO Oc (fun i => if i = 0 then some x else none)) (upd (upd H0 dx (.own x)) x (.ins C dx [])) := fun a o n e => ⟨fun z => (by
    rcases z with z | ⟨i, z⟩
    · exact n (.inl z)
    · rw [(ow0 z).2, hx] at e; cases e), ex a o e⟩
  exact {
    len := by rw [List.length_cons, List.length_cons, R.len]
    ex := ex
    oc := oc
    fr := fun i a h => by rw [(ow0 h).2]; exact ⟨hx, by unfold Lv; rw [upd_same]; exact ⟨fun z => (by cases z), fun _ z => (by cases z)⟩⟩
    inj := fun i j a h h' => by rw [(ow0 h).1, (ow0 h').1]
    is := fun i a h => by rw [(ow0 h).1]; exact ⟨_, rfl⟩
    val := fun i d h => by
      cases i with
      | zero => cases h
      | succ i =>
        obtain ⟨v, h1, h2⟩ := R.val i d h
        exact ⟨v, h1, h2.kp k⟩
    own := fun i d h => by
      cases i with
      | zero =>
        cases h
        exact ⟨x, rfl, rfl, dx, [], upd_same, .nil⟩
      | succ i =>
        obtain ⟨a, h1, _⟩ := R.own i d h
        cases h1
    pin := fun p h => by cases h
    slf := fun y h => by cases h; rfl }
theorem initG {P : Program} {w : World} {mg : Str → Option Value} {base : Heap} {C : Addr} {x qual : Str} {st : Stmt} {f : Addr} {fd : FuncData} {N ps : List Str} {k n m : Nat} {t : SF} (F : Fun K x qual st f fd) (S : FnScope N ps (defScope st)) (hn : n + 1 = ps.length) (hm : N.length = n + 1 + m)
    (hb : ∀ (cdv : Value) (A : Around) (outer : List Env) (s : Shared) (H : Hp) (E : XK), Room k (A.deeper (envOfC qual (defScope st) s.heap.objs.size f cdv)) → ∃ ts, PSs (cxOf CX0 P w K mg base N qual (defScope st) f cdv A outer s H E).nox (defBody st) ts ∧ SR K ts t) : FnOk P w K mg base CX0 (k + 1) f fd ps (spI K C n (runI C m t)) := by
  refine F.ok S (fun vs H Q E h => ?_) (fun cdv A outer s H vs Q E hr h => ?_)
  · obtain ⟨H0, Oc, x, dx, as, ds, gs, rfl, hl, _⟩ := h
    rw [List.length_cons, hl, hn]
  · obtain ⟨H0, Oc, x, dx, as, ds, gs, rfl, hl, hx, hd, hdx, rfl, oc, r, hg, q⟩ := h
    obtain ⟨ts, hts, hs⟩ := hb cdv A outer s _ E hr
    refine ⟨ts, hts, ?_⟩
    have R := reps_init (C := C) hx hd oc N r (m := m) (by rw [hl]; exact hm)
    unfold runI at hg
    split at hg
    · rename_i C' gs' rest e
      split at hg
      · rename_i ec
        subst ec
        cases hg
        refine hs _ _ e H0 Oc _ _ _ _ R _ fun ow σ H' R' => ?_
        obtain ⟨p, h1, h2, h3⟩ := R'.own 0 _ rfl
        have e2 := R'.slf x rfl
        rw [e2] at h1
        cases h1
        refine q H' R'.ex (h3.kp (fun b o nb e => ⟨fun z => ?_, e⟩) rfl)
        rcases z with z | z
        · exact nb (.inl z)
        · exact nb (.inr ⟨0, by rw [z]; exact e2⟩)
      · cases hg
    · cases hg
def dMake (C : Addr) (n : Nat) (gf : List D → Option (List (Str × D))) (a : DAF) : DF := fun g => (a g).bind fun ds => if ds.length = n then (gf ds).map (.ins C) else none
theorem eo_make {C : Addr} {n : Nat} {gf : List D → Option (List (Str × D))} {E : XK} {ta : TA} {a : DAF} (ha : AR K ta a) : EO K (tMake C (spI K C n gf) [] E ta) (dMake C n gf a) := fun g d h H0 Oc pins ow σ H R Q q => by
  unfold dMake at h
  cases ea : a g with
  | none => rw [ea] at h; cases h
  | some ds =>
    rw [ea] at h
    simp only [Option.bind_some] at h
    split at h
    · rename_i hn
      cases ew : gf ds with
      | none => rw [ew] at h; cases h
      | some gs =>
        rw [ew] at h
        cases h
        refine ha g ds ea H0 Oc pins ow σ H R _ fun vs H1 e1 r1 => fun x dx hx hdx hne => ?_
        rw [List.append_nil]
        exact ⟨H1, OO Oc ow, x, dx, vs, ds, gs, rfl, by rw [r1.len]; exact hn, hx, hdx, hne, rfl, (R.grow e1).oo, r1, ew, fun H2 e2 r2 => ⟨rfl, q x H2 (e1.trans e2) (Evl.fresh_back e1 hx) r2⟩⟩
    · cases h
end
end Zk
end

section
set_option Elab.async false
set_option linter.all false
set_option maxRecDepth 100000
set_option autoImplicit false
set_option maxHeartbeats 2000000
/-! len(set(ints)); names of the built-ins; odds. -/
namespace Zk
open PySem L2 PyProof.Rows
open Evl (Ex)

/-! ### how many different ones -/
def dd : List Int → List Int
  | [] => []
  | x :: xs => if x ∈ xs then dd xs else x :: dd xs
theorem dd_mem : ∀ (xs : List Int) (k : Int), k ∈ dd xs ↔ k ∈ xs
  | [], k => Iff.rfl
  | x :: xs, k => by
    unfold dd
    by_cases h : x ∈ xs
    · rw [if_pos h, dd_mem xs k, List.mem_cons]
      exact ⟨.inr, fun z => z.elim (fun e => e ▸ h) id⟩
    · rw [if_neg h, List.mem_cons, List.mem_cons, dd_mem xs k]
theorem dd_nodup : ∀ xs : List Int, (dd xs).Nodup
  | [] => .nil
  | x :: xs => by
    unfold dd
    by_cases h : x ∈ xs
    · rw [if_pos h]; exact dd_nodup xs
    · rw [if_neg h]
      exact List.nodup_cons.mpr ⟨fun z => h ((dd_mem xs x).mp z), dd_nodup xs⟩
theorem dd_le : ∀ xs : List Int, (dd xs).length ≤ xs.length
  | [] => Nat.le_refl _
  | x :: xs => by
    unfold dd
    have := dd_le xs
    by_cases h : x ∈ xs
    · rw [if_pos h, List.length_cons]; omega
    · rw [if_neg h, List.length_cons, List.length_cons]; omega
theorem dd_eq : ∀ xs : List Int, (dd xs).length = xs.length ↔ xs.Nodup
  | [] => by simp [dd]
  | x :: xs => by
    unfold dd
    have := dd_le xs
    by_cases h : x ∈ xs
    · rw [if_pos h, List.length_cons, List.nodup_cons]
      exact ⟨fun e => by omega, fun e => absurd h e.1⟩
    · rw [if_neg h, List.length_cons, List.length_cons, List.nodup_cons, ← dd_eq xs]
      exact ⟨fun e => ⟨h, by omega⟩, fun e => by omega⟩
theorem nodup_len {xs ys : List Int} (hx : xs.Nodup) (hy : ys.Nodup) (h : ∀ k, k ∈ xs ↔ k ∈ ys) : xs.length = ys.length :=
  ((List.perm_ext_iff_of_nodup hx hy).mpr h).length_eq
theorem met_nodup (val : Nat → Int) : ∀ i, (firstMet val i).Nodup
  | 0 => .nil
  | i + 1 => by
    rw [firstMet_succ]
    unfold step_dedup
    split
    · exact met_nodup val i
    · rename_i h
      rw [List.nodup_append]
      refine ⟨met_nodup val i, by simp, fun a ha b hb => ?_⟩
      rw [List.mem_singleton.mp hb]
      intro e
      exact h (List.any_eq_true.mpr ⟨a, ha, by rw [e]; exact beq_self_eq_true _⟩)
theorem met_mem (ns : List Int) (k : Int) : k ∈ firstMet (fun i => ns.getD i 0) ns.length ↔ k ∈ ns := by
  have e := firstMet_any (fun i => ns.getD i 0) ns.length k
  have e2 : (List.range ns.length).map (fun i => ns.getD i 0) = ns := by
    apply List.ext_getElem
    · simp
    · intro i h1 h2
      simp [List.getElem?_eq_getElem h2]
  rw [e2] at e
  have q : ∀ l : List Int, l.any (· == k) = true ↔ k ∈ l := fun l => by
    rw [List.any_eq_true]
    exact ⟨fun ⟨x, hx, hk⟩ => by rw [← eq_of_beq hk]; exact hx, fun h => ⟨k, h, beq_self_eq_true _⟩⟩
  rw [← q, ← q, e]
theorem met_len (ns : List Int) : (firstMet (fun i => ns.getD i 0) ns.length).length = (dd ns).length :=
  nodup_len (met_nodup _ _) (dd_nodup ns) fun k => (met_mem ns k).trans (dd_mem ns k).symm
def tLenSetA (K : PySem.W.Frag) (ta : TE) : TE := fun σ H Q => ta σ H fun x H1 => ∃ (l : Addr) (ns : List Int), x = .ref l ∧ (SqL K H1 l (ns.map V.int) ∨ SqT K H1 l (ns.map V.int)) ∧ ns.length ≤ 4000 ∧ Q (.int ((dd ns).length : Nat)) H1
theorem pe_lenSetA {X : Cx} {a : Expr} {ta : TE} {p p2 q pos : Pos} (hg : Gl X "len") (hm : X.mg "len" = none) (hg2 : Gl X "set") (hm2 : X.mg "set" = none) (ha : PE X a ta) (hc : X.calm = true := by rfl)
    (na : starEach [a] X.env = (false, eval a X.env) :: starEach [] X.env := by rfl) : PE X (.Call (.Name "len" p) [.Call (.Name "set" p2) [a] [] q] [] pos) (tLenSetA X.K ta) := by
  refine ⟨fun pins s σ H Q I h => ?_⟩
  refine Call_ (ld_blt I hg hm boot_len ?_)
  refine PyProof.Rows.callWith_builtin1 (PyProof.Rows.args_cons ?_ rfl) rfl rfl
  refine Call_ (ld_blt I hg2 hm2 boot_set ?_)
  refine PyProof.Rows.callWith_type1 (PyProof.Rows.args_cons (thn (ha.run pins s σ H _ I h) fun v s1 ⟨x, H1, I1, r1, q1⟩ => PyProof.Rows.args_nil ?_) na) na rfl
  obtain ⟨l, ns, rfl, hq, hl, q1⟩ := q1
  cases r1
  rcases hq with hq | hq
  · obtain ⟨its, r, pl, hz⟩ := I1.list hq
    have hlen : its.toArray.size = ns.length := by rw [List.size_toArray, ← r.length, List.length_map]
    refine call_set_list (I1.ok.hd hc) pl.isList (by simpa using RZ.intsAre_vals r) (by rw [hlen]; unfold scanBound; omega) fun h' tk hS hk => ?_
    refine PyProof.Rows.args_nil ?_
    rw [hlen, met_len] at hS
    obtain ⟨o, es, ep, t, ho, hex, hd, _, _, _, hf, hn⟩ := hS
    have I2 : Inv X pins σ H1 { s1 with heap := h', toks := tk } := I1.kept fun b o e => hk b o (Heap.lt_size e) e
    have := dd_le ns
    exact call_len_set ho hex hd hf (by rw [hn] <;> omega) ⟨.int ((dd ns).length : Nat), H1, I2.tok _, ⟨_, by rw [hn]⟩, q1⟩
  · obtain ⟨its, r, pl, hz⟩ := I1.tuple hq
    refine call_set_tupI ns (I1.ok.hd hc) pl (by simpa using RZ.intsAre_vals r) (by unfold scanBound; omega) fun h' tk c R1 hcn k => ?_
    refine PyProof.Rows.args_nil ?_
    obtain ⟨o, es, ep, t, ho, hex, hd, g, nd, hm2, hb, hf, hn, _⟩ := R1
    have I2 : Inv X pins σ H1 { s1 with heap := h', toks := tk } := I1.kept k
    have e : es.size = (dd ns).length := by
      rw [← nodup_len nd (dd_nodup ns) fun k => by rw [← hm2 k, decide_eq_true_eq, dd_mem], List.length_map, Array.length_toList]
    have := dd_le ns
    exact call_len_set ho hex hd hf (by rw [e] <;> omega) ⟨.int ((dd ns).length : Nat), H1, I2.tok _, ⟨_, by rw [e]⟩, q1⟩
def lenSetD (d : D) : Option D := (itemsD d).bind fun ds => (asInts ds).bind fun ns => if ns.length ≤ 4000 then some (.int ((dd ns).length : Nat)) else none
section
variable {K : PySem.W.Frag}
theorem er_lenSet {te : TE} {a : DF} (ha : ER K te a) : ER K (tLenSetA K te) (d1 lenSetD a) := fun g d h H0 Oc pins ow σ H R Q q => by
  unfold d1 at h
  cases ea : a g with
  | none => rw [ea] at h; cases h
  | some x =>
    rw [ea] at h
    simp only [Option.bind_some] at h
    refine ha g x ea H0 Oc pins ow σ H R _ fun v H1 e1 r1 => ?_
    unfold lenSetD at h
    cases ei : itemsD x with
    | none => rw [ei] at h; cases h
    | some ds =>
      rw [ei] at h
      simp only [Option.bind_some] at h
      cases en : asInts ds with
      | none => rw [en] at h; cases h
      | some ns =>
        rw [en] at h
        simp only [Option.bind_some] at h
        split at h
        · rename_i hl
          cases h
          obtain rfl := asInts_iL en
          cases x <;> first | (cases ei; done) | skip
          · cases ei
            cases r1 with
            | lst n e r => rw [r.toInts] at e; exact ⟨_, ns, rfl, .inl (.of e), hl, q _ H1 e1 (.int _)⟩
          · cases ei
            cases r1 with
            | tup n e r => rw [r.toInts] at e; exact ⟨_, ns, rfl, .inr (.of e), hl, q _ H1 e1 (.int _)⟩
          · rename_i ms
            have e : iL ms = iL ns := Option.some.inj ei
            have e2 := asInts_of ms
            rw [e, asInts_of] at e2
            cases e2
            cases r1 with
            | scr n e => exact ⟨_, _, rfl, .inl (.inl e), hl, q _ H1 e1 (.int _)⟩
            | kscr e => exact ⟨_, _, rfl, .inl (e H1), hl, q _ H1 e1 (.int _)⟩
        · cases h
def negD : D → Option D
  | .int i => some (.int (-i))
  | _ => none
theorem ru_neg : RU K (rU fun i => .int (-i)) negD := fun x d h O H v o rx Q q => by
  unfold negD at h
  split at h
  · cases h; cases rx
    exact ⟨_, rfl, rr_fin q (.int _)⟩
  · cases h
/-- a flat value may look at what is owned -/
def peekF (a : DF) : DF := fun g => match a (frzAll g) with
  | some d => if d.flat = true then some d else none
  | none => none
theorem er_peekF {te : TE} {a : DF} (ha : ER K te a) : ER K te (peekF a) := fun g d h H0 Oc pins ow σ H R Q q => by
  unfold peekF at h
  split at h
  · rename_i d' e
    split at h
    · rename_i f
      cases h
      exact ha _ d e H0 Oc _ noOw σ H R.frzAll Q fun v H' e' r => q v H' e' (r.flat f)
    · cases h
  · cases h
end
/-! ### the built-ins by name -/
theorem bt_len : bootBuiltins "len" = some (.builtin "len") := by decide +kernel
theorem bt_abs : bootBuiltins "abs" = some (.builtin "abs") := by decide +kernel
theorem bt_min : bootBuiltins "min" = some (.builtin "min") := by decide +kernel
theorem bt_max : bootBuiltins "max" = some (.builtin "max") := by decide +kernel
theorem bt_sum : bootBuiltins "sum" = some (.builtin "sum") := by decide +kernel
theorem bt_all : bootBuiltins "all" = some (.builtin "all") := by decide +kernel
theorem bt_any : bootBuiltins "any" = some (.builtin "any") := by decide +kernel
theorem bt_sorted : bootBuiltins "sorted" = some (.builtin "sorted") := by decide +kernel
theorem bt_isinstance : bootBuiltins "isinstance" = some (.builtin "isinstance") := by decide +kernel
theorem bt_repr : bootBuiltins "repr" = some (.builtin "repr") := by decide +kernel
theorem bt_int : bootBuiltins "int" = some (.type "int") := by decide +kernel
theorem bt_bool : bootBuiltins "bool" = some (.type "bool") := by decide +kernel
theorem bt_str : bootBuiltins "str" = some (.type "str") := by decide +kernel
theorem bt_list : bootBuiltins "list" = some (.type "list") := by decide +kernel
theorem bt_tuple : bootBuiltins "tuple" = some (.type "tuple") := by decide +kernel
theorem bt_dict : bootBuiltins "dict" = some (.type "dict") := by decide +kernel
theorem bt_set : bootBuiltins "set" = some (.type "set") := by decide +kernel
end Zk
end

section
set_option Elab.async false
set_option linter.all false
set_option maxRecDepth 100000
set_option autoImplicit false
set_option maxHeartbeats 2000000
/-! Comprehensions of two clauses. -/
namespace Zk
open PySem L2 PyProof.Rows
open Evl (Ex)

/-- all but what stands at Dl is kept -/
def Tch (Dl : Addr) (H H2 : Hp) : Prop := ∀ a o, a ≠ Dl → H a = some o → H2 a = some o
theorem Tch.refl (Dl : Addr) (H : Hp) : Tch Dl H H := fun _ _ _ h => h
theorem Tch.trans {Dl : Addr} {H H1 H2 : Hp} (a : Tch Dl H H1) (b : Tch Dl H1 H2) : Tch Dl H H2 := fun c o n h => b c o n (a c o n h)
theorem Tch.ex {Dl : Addr} {H H1 : Hp} (e : Ex H H1) : Tch Dl H H1 := fun a o _ h => e a o h
theorem Tch.upd {Dl : Addr} {H : Hp} {o : HO} : Tch Dl H (L2.upd H Dl o) := fun a u n h => by rw [upd_ne n]; exact h
section
variable {K : PySem.W.Frag}
theorem Tch.kp {Dl : Addr} {O : Addr → Prop} {H H2 : Hp} (e : Tch Dl H H2) (hD : O Dl) : Kp O H O H2 := fun a o n h => ⟨n, e a o (fun z => n (z ▸ hD)) h⟩
open Classical in
theorem Reps.touch {B H H2 : Hp} {Oc : Addr → Prop} {pins : Pn} {ow : OW} {σ : L2.St} {g : Gm} {Dl : Addr} (R : Reps K B Oc pins ow σ H g) (hD : Oc Dl) (e : Tch Dl H H2) (h2 : Lv H2 Dl) :
    ∃ B', Reps K B' Oc pins ow σ H2 g := by
  have k : Kp (OO Oc ow) H (OO Oc ow) H2 := e.kp (.inl hD)
  have nD : ∀ i a, ow i = some a → a ≠ Dl := fun i a h z => (R.oc Dl hD).1 (by rw [← z]; exact (R.fr i a h).1)
  have there : ∀ a, a ≠ Dl → Lv H a → Lv H2 a := fun a n h => by
    cases y : H a with
    | none => exact absurd y h.1
    | some o =>
      have q := e a o n y
      exact ⟨fun z => (by rw [q] at z; cases z), fun xs z => (by rw [q] at z; exact h.2 xs (y.trans z))⟩
  refine ⟨fun b => if ∃ i, ow i = some b then none else H2 b, ?_⟩
  exact {
    len := R.len
    ex := fun a o h => by
      have h : (if ∃ i, ow i = some a then none else H2 a) = some o := h
      split at h
      · cases h
      · exact h
    oc := fun a h => by
      have nw : ¬ ∃ i, ow i = some a := fun ⟨i, z⟩ => (R.oc a h).1 (R.fr i a z).1
      show (if ∃ i, ow i = some a then none else H2 a) ≠ none ∧ ∀ xs, (if ∃ i, ow i = some a then none else H2 a) ≠ some (.tup xs)
      rw [if_neg nw]
      by_cases q : a = Dl
      · rw [q]; exact h2
      · exact there a q (R.oo a (.inl h))
    fr := fun i a h => ⟨if_pos ⟨i, h⟩, there a (nD i a h) (R.fr i a h).2⟩
    inj := R.inj
    is := R.is
    val := fun i d h => let ⟨v, h1, h2⟩ := R.val i d h; ⟨v, h1, h2.kp k⟩
    own := fun i d h => let ⟨a, h1, h2, h3⟩ := R.own i d h; ⟨a, h1, h2, h3.kp k (by
      cases y : H a with
      | none => exact absurd y h3.there
      | some o => exact e a o (nD i a h1) y)⟩
    pin := fun p h => (R.pin p h).kp k
    slf := R.slf }
def collL (one : D → Option (List D)) : List D → Option (List D)
  | [] => some []
  | d :: ds => (one d).bind fun es => (collL one ds).map (es ++ ·)
/-- a loop that collects into the list at Dl -/
theorem coll {J : It} {ds es : List D} {ps : List (V × D)} {one : D → Option (List D)} {B H : Hp} {Oc : Addr → Prop} {pins : Pn} {ow : OW} {σ : L2.St} {g : Gm} {Dl : Addr} {acc : List V} {dn : List D} {Fin : Hp → Prop} {Body : V → Hp → (Hp → Prop) → Prop}
    (hw : Wk K J ds ps) (R : Reps K B Oc pins ow σ H g) (hD : Oc Dl) (hps : ∀ p ∈ ps, Rp K (OO Oc ow) H p.1 p.2) (hl : H Dl = some (.lst acc)) (ra : RpA K (OO Oc ow) H acc dn)
    (h : collL one ds = some es)
    (hs : ∀ d os, d ∈ ds → one d = some os → ∀ B' x H' acc' dn' (Nx : Hp → Prop), Tch Dl H H' → Reps K B' Oc pins ow σ H' g → Rp K (OO Oc ow) H' x d → H' Dl = some (.lst acc') → RpA K (OO Oc ow) H' acc' dn' → dn'.length + os.length ≤ dn.length + es.length →
      (∀ H2 acc2, Tch Dl H' H2 → H2 Dl = some (.lst acc2) → RpA K (OO Oc ow) H2 acc2 (dn' ++ os) → Nx H2) → Body x H' Nx)
    (hq : ∀ H2 acc2, Tch Dl H H2 → H2 Dl = some (.lst acc2) → RpA K (OO Oc ow) H2 acc2 (dn ++ es) → Fin H2) :
    ∃ W : Nat → Nat → Hp → Prop, (∃ m, W 0 m H) ∧ ∀ i m H', W i m H' → (J.stop i H' ∧ Fin H') ∨ (J.go i H' ∧ ∃ Nx : Hp → Prop, (∀ H2, Nx H2 → ∃ m', m' < m ∧ W (i + 1) m' H2) ∧ ∀ x H2, J.yld i H' x H2 → Body x H2 Nx) := by
  let P : Nat → Hp → Prop := fun i H' => ∃ acc' dn' rest, Tch Dl H H' ∧ H' Dl = some (.lst acc') ∧ RpA K (OO Oc ow) H' acc' dn' ∧ collL one (ds.drop i) = some rest ∧ dn ++ es = dn' ++ rest
  refine ⟨fun i m H' => m = ds.length - i ∧ i ≤ ds.length ∧ P i H', ⟨ds.length, rfl, Nat.zero_le _, ⟨acc, dn, es, Tch.refl Dl H, hl, ra, h, rfl⟩⟩, ?_⟩
  rintro i m H' ⟨rfl, hi, ⟨acc', dn', rest, e1, hl', ra', hr, hes⟩⟩
  obtain ⟨B', R'⟩ := R.touch hD e1 ⟨by rw [hl']; exact fun z => (by cases z), by rw [hl']; exact fun _ z => (by cases z)⟩
  have kps : ∀ p ∈ ps, Rp K (OO Oc ow) H' p.1 p.2 := fun p hp => (hps p hp).kp (e1.kp (.inl hD))
  by_cases hlt : i < ds.length
  · refine .inr ⟨hw.go _ i H' hlt kps trivial, P (i + 1), fun H2 p => ⟨ds.length - (i + 1), by omega, rfl, hlt, p⟩, fun x H2 y => ?_⟩
    have hd : ds[i]? = some ds[i] := List.getElem?_eq_getElem hlt
    obtain ⟨e2, rx⟩ := hw.yld _ i H' x H2 ds[i] R'.oo kps y hd
    rw [show ds.drop i = ds[i] :: ds.drop (i + 1) from List.drop_eq_getElem_cons hlt] at hr
    unfold collL at hr
    cases e3 : one ds[i] with
    | none => rw [e3] at hr; cases hr
    | some os =>
      rw [e3] at hr
      simp only [Option.bind_some] at hr
      cases e4 : collL one (ds.drop (i + 1)) with
      | none => rw [e4] at hr; cases hr
      | some rest' =>
        rw [e4] at hr
        have hr2 : os ++ rest' = rest := Option.some.inj hr
        refine hs ds[i] os (List.getElem_mem hlt) e3 B' x H2 acc' dn' _ (e1.trans (Tch.ex e2)) (R'.grow e2) rx (e2 _ _ hl') (ra'.ex e2) (by
          have := congrArg List.length hes
          rw [← hr2, List.length_append, List.length_append, List.length_append] at this
          omega) fun H3 acc3 t3 l3 r3 => ⟨acc3, dn' ++ os, rest', (e1.trans (Tch.ex e2)).trans t3, l3, r3, e4, ?_⟩
        rw [hes, ← hr2, List.append_assoc]
  · have hi2 : i = ds.length := by omega
    subst hi2
    refine .inl ⟨hw.stop _ H' kps trivial, ?_⟩
    rw [List.drop_length] at hr
    have hr' : rest = [] := (Option.some.inj hr).symm
    rw [hr', List.append_nil] at hes
    exact hq H' acc' e1 hl' (by rw [hes]; exact ra')
/-- all lists that are made so stay below a line -/
def one1 (tg : DGF) (tt : DTF) (te : DF) (g : Gm) : D → Option (List D) := fun d => (tg d g).bind fun g1 => (tt g1).bind fun b => if b = true then (te g1).map fun e => [e] else some []
def one2 (tg : DGF) (tt : DTF) (it1 : DIF) (tg1 : DGF) (tt1 : DTF) (te : DF) (vs1 : List Nat) (g : Gm) : D → Option (List D) := fun d => (tg d g).bind fun g1 => (tt g1).bind fun b =>
  if b = true then (if free g1 vs1 = true then (it1 g1).bind fun ds1 => collL (one1 tg1 tt1 te (wipeG g1 vs1)) ds1 else none) else some []
def dLc2 (it : DIF) (tg : DGF) (tt : DTF) (it1 : DIF) (tg1 : DGF) (tt1 : DTF) (te : DF) (vs vs1 : List Nat) : DF := fun g => if free g vs = true then (it g).bind fun ds => (collL (one2 tg tt it1 tg1 tt1 te vs1 (wipeG g vs)) ds).bind fun es =>
  if es.length ≤ 100000 then some (.lst es) else none else none

theorem eo_lc2 {wi wi1 : TI} {it it1 : DIF} {tg tg1 : TG} {f f1 : DGF} {tte tte1 : TT} {ft ft1 : DTF} {tee : TE} {fe : DF} {vs vs1 : List Nat} (hi : IR K wi it) (hg : GRc K tg f vs) (ht : TR K tte ft)
    (hi1 : IR K wi1 it1) (hg1 : GRc K tg1 f1 vs1) (ht1 : TR K tte1 ft1) (he : ER K tee fe) : EO K (tLc2 wi tg tte wi1 tg1 tte1 tee vs vs1) (dLc2 it f ft it1 f1 ft1 fe vs vs1) := fun g d h H0 Oc pins ow σ H R Q q => by
  unfold dLc2 at h
  split at h
  · rename_i hf
    cases ei : it g with
    | none => rw [ei] at h; cases h
    | some ds =>
      rw [ei] at h
      simp only [Option.bind_some] at h
      cases el : collL (one2 f ft it1 f1 ft1 fe vs1 (wipeG g vs)) ds with
      | none => rw [el] at h; cases h
      | some es =>
        rw [el] at h
        simp only [Option.bind_some] at h
        split at h
        · rename_i hz
          cases h
          refine hi g ds ei H0 Oc pins ow σ H R _ fun J H1 ps e1 hps hw => ?_
          intro Dl hDl
          have R1 := R.grow e1
          obtain ⟨B, RB⟩ := R1.rebase hDl (Evl.Ex.new (o := .lst []) hDl) (by unfold Lv; rw [upd_same]; exact ⟨fun z => (by cases z), fun _ z => (by cases z)⟩)
          have oeq : ∀ a, OO (fun a => Oc a ∨ a = Dl) ow a ↔ (OO Oc ow a ∨ a = Dl) := fun a =>
            ⟨fun z => z.elim (fun z => z.elim (fun z => .inl (.inl z)) .inr) (fun z => .inl (.inr z)), fun z => z.elim (fun z => z.elim (fun z => .inl (.inl z)) (fun z => .inr z)) (fun z => .inl (.inr z))⟩
          have kps : ∀ p ∈ ps, Rp K (OO (fun a => Oc a ∨ a = Dl) ow) (upd H1 Dl (.lst [])) p.1 p.2 := fun p hp => (hps p hp).kp fun a o n q => ⟨fun z => (by
            rcases (oeq a).mp z with z | z
            · exact n z
            · rw [z, hDl] at q; cases q), Evl.Ex.new hDl a o q⟩
          refine coll (Body := fun x H2 Nx => tg x (L2.wipe σ vs) H2 fun σ2 H2 => L2.wipe σ2 vs = L2.wipe σ vs ∧ tte σ2 H2 fun b H3 =>
            if b = true then wi1 σ2 H3 fun J1 H4 => ∃ W1 : Nat → Nat → Hp → Prop, (∃ m, W1 0 m H4) ∧ ∀ j k H, W1 j k H →
              (J1.stop j H ∧ Nx H) ∨ (J1.go j H ∧ ∃ Nx1 : Hp → Prop, (∀ H', Nx1 H' → ∃ k', k' < k ∧ W1 (j + 1) k' H') ∧ ∀ x H', J1.yld j H x H' → tg1 x (L2.wipe σ2 vs1) H' fun σ3 H5 => L2.wipe σ3 vs1 = L2.wipe σ2 vs1 ∧ tte1 σ3 H5 fun b H6 =>
                if b = true then tee σ3 H6 fun y H7 => ∃ acc, H7 Dl = some (.lst acc) ∧ acc.length < sizeLine ∧ Nx1 (upd H7 Dl (.lst (acc ++ [y]))) else Nx1 H6)
            else Nx H3) hw RB (.inr rfl) kps upd_same .nil el ?_ ?_
          · intro d os hd ho B' x H' acc' dn' Nx t1 R' rx hl' ra' hlen hN
            unfold one2 at ho
            cases e3 : f d (wipeG g vs) with
            | none => rw [e3] at ho; cases ho
            | some g1 =>
              rw [e3] at ho
              simp only [Option.bind_some] at ho
              cases e4 : ft g1 with
              | none => rw [e4] at ho; cases ho
              | some b =>
                rw [e4] at ho
                simp only [Option.bind_some] at ho
                have RW := R'.wipe hf
                refine hg d (wipeG g vs) g1 (fun v hv d' => wipeG_not hv _) e3 B' _ pins ow _ H' x RW rx _ fun σ2 R2 w2 _ => ⟨w2.trans (wipe_wipe σ vs), ?_⟩
                refine ht g1 b e4 B' _ pins ow σ2 H' R2 _ fun H3 e5 => ?_
                cases b with
                | false =>
                  rw [if_neg Bool.false_ne_true] at ho ⊢
                  cases ho
                  exact hN H3 acc' (Tch.ex e5) (e5 _ _ hl') (by rw [List.append_nil]; exact ra'.ex e5)
                | true =>
                  rw [if_pos rfl] at ho ⊢
                  split at ho
                  · rename_i hf1
                    cases e6 : it1 g1 with
                    | none => rw [e6] at ho; cases ho
                    | some ds1 =>
                      rw [e6] at ho
                      simp only [Option.bind_some] at ho
                      have R3 := R2.grow e5
                      refine hi1 g1 ds1 e6 B' _ pins ow σ2 H3 R3 _ fun J1 H4 ps1 e7 hps1 hw1 => ?_
                      have R4 := R3.grow e7
                      refine coll (Body := fun x H2 Nx1 => tg1 x (L2.wipe σ2 vs1) H2 fun σ3 H5 => L2.wipe σ3 vs1 = L2.wipe σ2 vs1 ∧ tte1 σ3 H5 fun b H6 =>
                        if b = true then tee σ3 H6 fun y H7 => ∃ acc, H7 Dl = some (.lst acc) ∧ acc.length < sizeLine ∧ Nx1 (upd H7 Dl (.lst (acc ++ [y]))) else Nx1 H6) hw1 R4 (.inr rfl) hps1 (e7 _ _ (e5 _ _ hl')) ((ra'.ex e5).ex e7) ho ?_ ?_
                      · intro d1 os1 hd1 ho1 B2 x1 H8 acc8 dn8 Nx1 t8 R8 rx8 hl8 ra8 hlen8 hN8
                        unfold one1 at ho1
                        cases e9 : f1 d1 (wipeG g1 vs1) with
                        | none => rw [e9] at ho1; cases ho1
                        | some g2 =>
                          rw [e9] at ho1
                          simp only [Option.bind_some] at ho1
                          cases e10 : ft1 g2 with
                          | none => rw [e10] at ho1; cases ho1
                          | some b1 =>
                            rw [e10] at ho1
                            simp only [Option.bind_some] at ho1
                            have RW1 := R8.wipe hf1
                            refine hg1 d1 (wipeG g1 vs1) g2 (fun v hv d' => wipeG_not hv _) e9 B2 _ pins ow _ H8 x1 RW1 rx8 _ fun σ3 R9 w3 _ => ⟨w3.trans (wipe_wipe σ2 vs1), ?_⟩
                            refine ht1 g2 b1 e10 B2 _ pins ow σ3 H8 R9 _ fun H9 e11 => ?_
                            cases b1 with
                            | false =>
                              rw [if_neg Bool.false_ne_true] at ho1 ⊢
                              cases ho1
                              exact hN8 H9 acc8 (Tch.ex e11) (e11 _ _ hl8) (by rw [List.append_nil]; exact ra8.ex e11)
                            | true =>
                              rw [if_pos rfl] at ho1 ⊢
                              cases e12 : fe g2 with
                              | none => rw [e12] at ho1; cases ho1
                              | some e =>
                                rw [e12] at ho1
                                cases ho1
                                refine he g2 e e12 B2 _ pins ow σ3 H9 (R9.grow e11) _ fun yv H10 e13 ry => ?_
                                have k4 : Kp (OO (fun a => Oc a ∨ a = Dl) ow) H10 (OO (fun a => Oc a ∨ a = Dl) ow) (upd H10 Dl (.lst (acc8 ++ [yv]))) := Tch.upd.kp (.inl (.inr rfl))
                                refine ⟨acc8, e13 _ _ (e11 _ _ hl8), Evl.sz_lt ?_, hN8 _ _ ((Tch.ex (e11.trans e13)).trans Tch.upd) upd_same (RpA.app ((((ra8.ex e11).ex e13)).kp k4) (.one (ry.kp k4)))⟩
                                rw [ra8.len]
                                simp only [List.length_nil, List.length_singleton, Nat.zero_add] at hlen hlen8
                                omega
                      · intro H8 acc8 t8 l8 r8
                        exact hN H8 acc8 ((Tch.ex (e5.trans e7)).trans t8) l8 r8
                  · cases ho
          · intro H2 acc2 t2 l2 r2
            have ex2 : Ex H H2 := fun a o e => by
              have e' := e1 a o e
              have n : a ≠ Dl := fun z => by rw [z, hDl] at e'; cases e'
              exact t2 a o n (by rw [upd_ne n]; exact e')
            refine q Dl H2 ex2 (Evl.fresh_back e1 hDl) ⟨acc2, l2, ?_⟩
            exact r2.kp fun a o n q => ⟨fun z => n ((oeq a).mpr z), q⟩
        · cases h
  · cases h
end
end Zk
end

section
set_option Elab.async false
set_option linter.all false
set_option maxRecDepth 100000
set_option autoImplicit false
set_option maxHeartbeats 2000000
/-! in and count over items of any shape. -/
namespace Zk
open PySem L2 PyProof.Rows
open Evl (Ex)
/-- small data -/
def small (p : PyData) : Bool := p.canLay0 && decide (p.depth ≤ 60)
section
variable {X : Cx}
def rInP (K : PySem.W.Frag) (neg : Bool) : R2 := fun x y H Q => ∃ d ds, Dp K H x d ∧ (Dp K H y (.list ds) ∨ Dp K H y (.tuple ds)) ∧ PyData.canLayAll0 ds = true ∧ small d = true ∧ Q (.bl (if neg then !(ds.any fun z => PyData.eqv z d) else ds.any fun z => PyData.eqv z d)) H
theorem small_room {A : Around} {xs : List PyData} {d : PyData} (h : small d = true) (hu : A.units + 64 < cLine) : A.units + 1 + min (PyData.depthAll xs) d.depth < cLine := by
  unfold small at h
  rw [Bool.and_eq_true] at h
  have h1 := of_decide_eq_true h.2
  have h2 : min (PyData.depthAll xs) d.depth ≤ d.depth := Nat.min_le_right _ _
  omega
theorem small_lay {d : PyData} (h : small d = true) : d.canLay0 = true := by
  unfold small at h
  rw [Bool.and_eq_true] at h
  exact h.1
theorem op_inP (hu : X.A.units + 64 < cLine) : OpR X (compareOp .In) (rInP X.K false) := by
  intro pins s σ H x y v u Q I rx ry h
  obtain ⟨d, ds, hd, hl, s1, sd, q⟩ := h
  obtain ⟨as, r1⟩ := Dp.reads I d x v hd rx
  rcases hl with hl | hl
  · obtain ⟨bs, r2⟩ := Dp.reads I (.list ds) y u hl ry
    exact SeqAt.in_list_reads r2 r1 s1 (small_lay sd) (small_room sd hu) ⟨.bl _, H, I, rfl, q⟩
  · obtain ⟨bs, r2⟩ := Dp.reads I (.tuple ds) y u hl ry
    exact SeqAt.in_tuple_reads r2 r1 s1 (small_lay sd) (small_room sd hu) ⟨.bl _, H, I, rfl, q⟩
theorem op_ninP (hu : X.A.units + 64 < cLine) : OpR X (compareOp .NotIn) (rInP X.K true) := by
  intro pins s σ H x y v u Q I rx ry h
  obtain ⟨d, ds, hd, hl, s1, sd, q⟩ := h
  obtain ⟨as, r1⟩ := Dp.reads I d x v hd rx
  rcases hl with hl | hl
  · obtain ⟨bs, r2⟩ := Dp.reads I (.list ds) y u hl ry
    exact SeqAt.notIn_list_reads r2 r1 s1 (small_lay sd) (small_room sd hu) ⟨.bl _, H, I, rfl, q⟩
  · obtain ⟨bs, r2⟩ := Dp.reads I (.tuple ds) y u hl ry
    exact SeqAt.notIn_tuple_reads r2 r1 s1 (small_lay sd) (small_room sd hu) ⟨.bl _, H, I, rfl, q⟩
def rCountP (K : PySem.W.Frag) : V → List V → Hp → VK → Prop := fun x xs H Q => ∃ (a : Addr) (ys : List V) (y : V) (d : PyData) (ds : List PyData), x = V.ref a ∧ xs = [y] ∧ SqL K H a ys ∧ DpAll K H ys ds ∧ Dp K H y d ∧ PyData.canLayAll0 ds = true ∧ small d = true ∧
  Q (.int ((ds.countP fun z => PyData.eqv z d : Nat) : Int)) H
theorem mt_countP (hu : X.A.units + 64 < cLine) : MtR X "list.count" (rCountP X.K) := by
  intro pins s σ H x xs v us Q I rx rxs h
  obtain ⟨a, ys, y, d, ds, rfl, rfl, hs, hys, hy, cl, sd, q⟩ := h
  cases rx
  cases rxs with
  | cons ry rt =>
    rename_i uy ut
    cases rt
    obtain ⟨its, rv, ⟨⟨cls, dd, data, sl⟩, n, ho, hc, hdn, hd⟩, hlen⟩ := I.list hs
    simp only at hc hd
    subst hc hd
    obtain ⟨as, r1⟩ := Dp.reads I d y uy hy ry
    obtain ⟨bs, r2⟩ := Dp.readsAll I ds ys its hys rv
    refine call_meets PySem.F.slot_list_count ⟨_, ho, rfl⟩ PySem.F.entry_list_count (PySem.F.args_list_count_2 _ _)
      (SeqAt.list_countAt a its.toArray n dd sl uy fun z => PyData.eqv (SeqAt.readOf s.heap z) d) ⟨ho, SeqAt.items_eqAt (by simpa using r2) r1 cl (small_lay sd) (small_room sd hu), ?_⟩
    have e : its.toArray.toList.countP (fun z => PyData.eqv (SeqAt.readOf s.heap z) d) = ds.countP fun z => PyData.eqv z d := by
      rw [← SeqAt.readsAll_map ds its bs cl r2, List.countP_map]
      rfl
    rw [e]
    exact ⟨.int _, H, I.tok _, ⟨_, rfl⟩, q⟩
end
def inPB (x : D) : D → Option Bool
  | .lst ds => (toP x).bind fun d => (toPs ds).bind fun ps => if small d && PyData.canLayAll0 ps then some (ps.any fun z => PyData.eqv z d) else none
  | .tup ds => (toP x).bind fun d => (toPs ds).bind fun ps => if small d && PyData.canLayAll0 ps then some (ps.any fun z => PyData.eqv z d) else none
  | _ => none
def inPD (x y : D) : Option D := (inPB x y).map .bl
def ninPD (x y : D) : Option D := (inPB x y).map fun b => .bl (!b)
section
variable {K : PySem.W.Frag}
theorem inPB_get {x : D} {ds : List D} {b : Bool} (h : ((toP x).bind fun d => (toPs ds).bind fun ps => if small d && PyData.canLayAll0 ps then some (ps.any fun z => PyData.eqv z d) else none) = some b) :
    ∃ d ps, toP x = some d ∧ toPs ds = some ps ∧ small d = true ∧ PyData.canLayAll0 ps = true ∧ b = ps.any fun z => PyData.eqv z d := by
  cases h1 : toP x with
  | none => rw [h1] at h; cases h
  | some d =>
    rw [h1, Option.bind_some] at h
    cases h2 : toPs ds with
    | none => rw [h2] at h; cases h
    | some ps =>
      rw [h2, Option.bind_some] at h
      split at h
      · rename_i c
        rw [Bool.and_eq_true] at c
        cases h
        exact ⟨d, ps, rfl, rfl, c.1, c.2, rfl⟩
      · cases h
theorem inPB_rp {O : Addr → Prop} {H : Hp} {x y : D} {v u : V} {b : Bool} (h : inPB x y = some b) (rx : Rp K O H v x) (ry : Rp K O H u y) :
    ∃ d ps, Dp K H v d ∧ (Dp K H u (.list ps) ∨ Dp K H u (.tuple ps)) ∧ PyData.canLayAll0 ps = true ∧ small d = true ∧ b = ps.any fun z => PyData.eqv z d := by
  unfold inPB at h
  split at h
  · obtain ⟨d, ps, h1, h2, h3, h4, h5⟩ := inPB_get h
    exact ⟨d, ps, dp_of rx h1, .inl (dp_of ry (by unfold toP; rw [h2]; rfl)), h4, h3, h5⟩
  · obtain ⟨d, ps, h1, h2, h3, h4, h5⟩ := inPB_get h
    exact ⟨d, ps, dp_of rx h1, .inr (dp_of ry (by unfold toP; rw [h2]; rfl)), h4, h3, h5⟩
  · cases h
theorem rr_inP : RR K (rInP K false) inPD := fun x y d h O H v u o rx ry Q q => by
  unfold inPD at h
  cases e : inPB x y with
  | none => rw [e] at h; cases h
  | some b =>
    rw [e] at h
    cases h
    obtain ⟨p, ps, h1, h2, h3, h4, h5⟩ := inPB_rp e rx ry
    refine ⟨p, ps, h1, h2, h3, h4, ?_⟩
    rw [if_neg Bool.false_ne_true, ← h5]
    exact rr_fin q (.bl _)
theorem rr_ninP : RR K (rInP K true) ninPD := fun x y d h O H v u o rx ry Q q => by
  unfold ninPD at h
  cases e : inPB x y with
  | none => rw [e] at h; cases h
  | some b =>
    rw [e] at h
    cases h
    obtain ⟨p, ps, h1, h2, h3, h4, h5⟩ := inPB_rp e rx ry
    refine ⟨p, ps, h1, h2, h3, h4, ?_⟩
    rw [if_pos rfl, ← h5]
    exact rr_fin q (.bl _)
def countD (y x : D) : Option D := match y with
  | .lst ds => (toP x).bind fun d => (toPs ds).bind fun ps => if small d && PyData.canLayAll0 ps then some (.int ((ps.countP fun z => PyData.eqv z d : Nat) : Int)) else none
  | _ => none
theorem er_count {ta tb : TE} {a b : DF} (ha : ER K ta a) (hb : ER K tb b) : ER K (tBM K "list" (rCountP K) ta (tCons tb tNil)) (d2 countD a b) := fun g d h H0 Oc pins ow σ H R Q q => by
  unfold d2 at h
  cases ea : a g with
  | none => rw [ea] at h; cases h
  | some x =>
    rw [ea] at h
    cases eb : b g with
    | none => simp [eb] at h
    | some y =>
      simp only [Option.bind_some, eb] at h
      unfold countD at h
      split at h
      · rename_i ds
        cases h1 : toP y with
        | none => rw [h1] at h; cases h
        | some p =>
          rw [h1, Option.bind_some] at h
          cases h2 : toPs ds with
          | none => rw [h2] at h; cases h
          | some ps =>
            rw [h2, Option.bind_some] at h
            split at h
            · rename_i c
              rw [Bool.and_eq_true] at c
              cases h
              refine ha g _ ea H0 Oc pins ow σ H R _ fun v H1 e1 r1 => ?_
              cases r1 with
              | @lst p0 xs _ n e r =>
                refine ⟨.inl ⟨rfl, _, .of e⟩, ?_⟩
                refine hb g y eb H0 Oc pins ow σ H1 (R.grow e1) _ fun w H2 e2 r2 => ?_
                have r' : Rp K (OO Oc ow) H2 (.ref p0) (.lst ds) := (Rp.lst n e r).ex e2
                cases r' with
                | lst n' e' r'' => exact ⟨p0, _, w, p, ps, rfl, rfl, .of e', dps_of r'' h2, dp_of r2 h1, c.2, c.1, q _ H2 (e1.trans e2) (.int _)⟩
            · cases h
      · cases h
/-- a new list of flat items may be made of what is owned -/
def peekO (a : DF) : DF := fun g => match a (frzAll g) with
  | some (.lst ds) => if ds.all D.flat then some (.lst ds) else none
  | _ => none
theorem RpA.flats {O O' : Addr → Prop} {H H' : Hp} : ∀ {vs : List V} {ds : List D}, RpA K O H vs ds → ds.all D.flat = true → RpA K O' H' vs ds
  | _, _, .nil, _ => .nil
  | _, _, .cons r t, f => by
    rw [List.all_cons, Bool.and_eq_true] at f
    exact .cons (r.flat f.1) (RpA.flats t f.2)
theorem er_peekO {te : TE} {a : DF} (ha : EO K te a) : ER K te (peekO a) := fun g d h H0 Oc pins ow σ H R Q q => by
  unfold peekO at h
  split at h
  · rename_i ds e
    split at h
    · rename_i f
      cases h
      refine ha _ _ e H0 Oc _ noOw σ H R.frzAll Q fun p H' e' hp r => q _ H' e' ?_
      obtain ⟨xs, h1, h2⟩ := r
      exact .lst (R.new hp) h1 (h2.flats f)
    · cases h
  · cases h
end
end Zk
end

section
set_option Elab.async false
set_option linter.all false
set_option maxRecDepth 100000
set_option autoImplicit false
set_option maxHeartbeats 2000000
/-! Dicts whose keys are tuples. -/
namespace Zk
open PySem PySem.W PySem.Calls PyProof.Rows L2
open Evl (Ex)
/-! ### walking the pairs -/
section
variable {X : Cx} {pins : List (Addr × Obj)} {σ : L2.St} {H : Hp} {s : Shared} {d : Addr} {o : Obj}
theorem frzT2 {kvs : List (List Key × V)} (I : Inv X pins σ H s) (h : H d = some (.frz o (.dT kvs))) :
    (d == sysModules) = false ∧ s.heap.get? d = some o ∧ o.ExactDict ∧ ∃ (es : Array DictEntry) (ep : Nat), o.data = .dict es ep ∧ es.size = kvs.length ∧
      ∀ (i : Nat) (k : List Key) (v : V), kvs[i]? = some (k, v) → ∃ (en : DictEntry) (q : Addr), es[i]? = some en ∧ en.key = .ref q ∧ H q = some (.tup (k.map kV)) ∧ RelV v en.val := by
  obtain ⟨hd, z, hs, xs, pr, o', es, ep, ho, hx, hdt, he, _⟩ := I.hok d _ h
  rw [hd] at ho
  cases ho
  refine ⟨hs, hd, hx, es, ep, hdt, ?_, fun i k v e => ?_⟩
  · have l1 : es.size = xs.length := size_of_entries he
    have l2 : kvs.length = xs.length := Paired.length pr
    omega
  · obtain ⟨b, hb, e1, e2, e3⟩ := paired_get pr e
    have q := entry_at he i
    rw [hb] at q
    exact ⟨_, b.2.1, q, rfl, e2, e3⟩
end
/-- the pairs, each a new tuple of the key's own tuple and the value -/
def Itit (d : Addr) (o : Obj) (kvs : List (List Key × V)) : It :=
  ⟨fun i H => H d = some (.frz o (.dT kvs)) ∧ i < kvs.length, fun i H x H' => ∃ T k v q, kvs[i]? = some (k, v) ∧ x = .ref T ∧ H q = some (.tup (k.map kV)) ∧ H T = none ∧ H' = upd H T (.tup [.ref q, v]), fun i H => H d = some (.frz o (.dT kvs)) ∧ kvs.length ≤ i⟩
section
variable {P : Program} {w : World} {K : PySem.W.Frag} {d : Addr} {o : Obj} {es : Array DictEntry} {ep : Nat}
theorem turn_itemsT {kvs : List (List Key × V)} {elts : List Expr} {kk : Nat} {tpos : Pos} (it : Addr) (hod : o.data = .dict es ep) :
    Turn P w K (.Tuple elts kk tpos) (Itit d o kvs) [it] it (fun i h => ∃ ok ov, IsItemIter h it d i kvs.length ep ok ov) where
  mem := by simp
  obj := fun i h st b hb => by
    have e : b = it := by simpa using hb
    subst e
    obtain ⟨ok, ov, e⟩ := st
    exact ⟨_, e, fun v z => nomatch z⟩
  keep := fun i h h' st k => let ⟨ok, ov, e⟩ := st; ⟨ok, ov, k it (by simp) _ e⟩
  item := by
    intro X hP hw hK hc i pins s σ H E I hf st hg
    subst hP hw hK
    obtain ⟨hd, hi⟩ := hg
    obtain ⟨hs, hgd, hx, es', ep', hdt, hsz, ent⟩ := frzT2 I hd
    obtain ⟨rfl, rfl⟩ := dict_ep hod hdt
    obtain ⟨⟨k, v⟩, hkv⟩ : ∃ p, kvs[i]? = some p := ⟨kvs[i], List.getElem?_eq_getElem hi⟩
    obtain ⟨en, q, he1, he2, he3, he4⟩ := ent i k v hkv
    obtain ⟨ok, ov, he⟩ := st
    rw [← hsz] at he
    have hlt : it < s.heap.objs.size := Heap.lt_size he
    have hies : i < es'.size := by omega
    have hen : es'[i] = en := by
      rw [Array.getElem?_eq_getElem hies] at he1
      exact Option.some.inj he1
    refine wpAny_pyNext_items_item_raw he ⟨o, hgd, hx, hdt⟩ hies fun h' ho hT hz hk => ?_
    rw [hen, he2] at hT ho
    refine ⟨_, rfl, wpAny_letOwnedTupleGo_items (s := { s with heap := h' }) ho fun h'' he' sb => ?_⟩
    have hT2 : h''.get? s.heap.objs.size = some { cls := .type "tuple", data := .seq #[.ref q, en.val] } := (sb.2 _ (Nat.ne_of_gt hlt)).trans hT
    have new : ObjOk X.prog X.w (upd H s.heap.objs.size (.tup [.ref q, v])) h'' s.heap.objs.size (.tup [.ref q, v]) :=
      ⟨by show 2 ≤ sizeLine; decide, [.ref q, en.val], .cons rfl (.cons he4 .nil), ⟨_, hT2, rfl, _, rfl⟩⟩
    have I1 : Inv X pins σ (upd H s.heap.objs.size (.tup [.ref q, v])) { s with heap := h'' } :=
      I.turnedNew (t' := s.toks) (ch := [it]) (fun b ob hb e => (sb.2 b (by simpa using hb)).trans (hk b ob (by simpa using hb) e)) hf (Nat.le_refl _) new
    refine ⟨.ref s.heap.objs.size, _, I1, rfl, ⟨_, k, v, q, hkv, rfl, he3, I.hok.fresh (Nat.le_refl _), rfl⟩, ⟨.ref q, en.val, ?_⟩, fun b hb => ?_⟩
    · rw [← hsz]; exact he'
    · have e : b = it := by simpa using hb
      rw [e, upd_ne (Nat.ne_of_lt hlt)]
      exact (hf it (by simp)).1
  done := by
    intro X hP hw hK hc i pins s σ H E I hf st hg
    subst hP hw hK
    obtain ⟨hd, hi⟩ := hg
    obtain ⟨f0, f1, f2, f3, f4, f5⟩ := hf it (by simp)
    obtain ⟨hs, hgd, hx, es', ep', hdt, hsz, ent⟩ := frzT2 I hd
    obtain ⟨rfl, rfl⟩ := dict_ep hod hdt
    obtain ⟨ok, ov, he⟩ := st
    rw [← hsz] at he
    exact wpAny_pyNext_items_end_raw (I.ok.hd hc) he ⟨o, hgd, hx, hdt⟩ (by omega) fun h' eb => ⟨rfl, I.turned (t' := s.toks) (fun b ob hb e => eb b ob hb e) f0 f1 f3 f4 f5⟩
  self := fun A i s Q E st h => let ⟨_, _, e⟩ := st; PySem.W.kcp_self e h
end
def iItemsT (td : TE) : TI := fun σ H R => td σ H fun x H1 => ∃ d o kvs, x = .ref d ∧ H1 d = some (.frz o (.dT kvs)) ∧ R (Itit d o kvs) H1
section
variable {X : Cx} {e : Expr} {td : TE} {apos cpos : Pos}
theorem pi_itemsT {elts : List Expr} {kk : Nat} {tpos : Pos} (he : PE X e td) (hbase : attributeBase e "items" X.env (eval e X.env) = eval e X.env := by rfl) (hline : (apos.endLine == cpos.line) = true := by rfl) :
    PI X (.Tuple elts kk tpos) (.Call (.Attribute e "items" apos) [] [] cpos) (iItemsT td) := by
  refine ⟨fun pins s σ H R I h => ?_⟩
  refine wpAny_Call_method (T := "dict") (id := "dict.items") hbase rfl hline F.plainAttrs_dict F.slot_dict_items F.type_dict_items (thn (he.run pins s σ H _ I h) fun u s1 ⟨x, H1, I1, rx, d, o, kvs, ex, hd, q⟩ => ?_)
  subst ex
  obtain rfl : u = Value.ref d := rx
  obtain ⟨hs, hgd, hx, es, ep, hdt, hsz, ent⟩ := frzT2 I1 hd
  have hr : s1.heap.DictRaw d es ep := ⟨o, hgd, hx, hdt⟩
  refine ⟨hr.typeIs, ?_, ?_⟩
  · rintro b rfl'
    cases rfl'
    exact ⟨o, hgd, hx.2.1⟩
  have I2 : Inv X pins σ H1 { s1 with heap := s1.heap.push { cls := .type "dict_items", data := .fields #[.ref d] } } := I1.kept (t' := s1.toks) fun b ob q => Heap.get?_push_of_some _ q
  have fin : wpAny (model X.prog X.w) X.A (pyIter (.ref s1.heap.objs.size)) (PIE X pins σ (.Tuple elts kk tpos) R) X.xe { s1 with heap := s1.heap.push { cls := .type "dict_items", data := .fields #[.ref d] } } := by
    refine wpAny_pyIter_items_raw (d := d) (es := es) (ep := ep) ⟨_, Heap.get?_push_size _ rfl, rfl, rfl⟩ (hr.at fun o q => Heap.get?_push_of_some _ q) (pi_one (tk := s1.toks) I2 _ (turn_itemsT _ hdt) ⟨.none, .none, ?_⟩ q)
    rw [← hsz]
    exact Heap.get?_push_size _ rfl
  show wpAny _ _ (callWith cpos (.builtin "dict.items") [.ref d] [] []) _ X.xe s1
  exact method_meetsIn F.slot_dict_items F.entry_dict_items rfl (PySem.evalArgs_none ⟨rfl, hr.typeIs, F.args_dict_items_1 _, _, meets_dict_items_raw d hs, ⟨es, ep, hr⟩, fin⟩)
end
end Zk
end

section
set_option Elab.async false
set_option linter.all false
set_option maxRecDepth 100000
set_option autoImplicit false
set_option maxHeartbeats 2000000
/-! Dicts as data. -/
namespace Zk
open PySem L2
open Evl (Ex)
/-! ### keys -/
def keyE : D → Option Key
  | .int i => some (.inl i)
  | .str s => some (.inr s)
  | _ => none
def keyEs : List D → Option (List Key)
  | [] => some []
  | d :: ds => (keyE d).bind fun k => (keyEs ds).map (k :: ·)
def keyD : D → Option (List Key)
  | .tup ds => keyEs ds
  | _ => none
def keyOf : Key → D
  | .inl i => .int i
  | .inr s => .str s
def keyT (ks : List Key) : D := .tup (ks.map keyOf)
variable {K : PySem.W.Frag}
theorem keyE_rp {O : Addr → Prop} {H : Hp} {v : V} {d : D} {k : Key} (r : Rp K O H v d) (h : keyE d = some k) : v = kV k := by
  cases r <;> first | (cases h; done) | (cases h; rfl)
theorem keyEs_rp {O : Addr → Prop} {H : Hp} : ∀ {vs : List V} {ds : List D} {ks : List Key}, RpA K O H vs ds → keyEs ds = some ks → vs = ks.map kV
  | _, _, ks, .nil, h => by cases h; rfl
  | _, d :: ds, ks, .cons r rr, h => by
    unfold keyEs at h
    cases e : keyE d with
    | none => rw [e] at h; cases h
    | some k =>
      rw [e] at h
      cases e2 : keyEs ds with
      | none => rw [Option.bind_some, e2] at h; cases h
      | some ks' =>
        rw [Option.bind_some, e2] at h
        cases h
        rw [List.map_cons, keyE_rp r e, keyEs_rp rr e2]
theorem keyD_rp {O : Addr → Prop} {H : Hp} {v : V} {d : D} {ks : List Key} (r : Rp K O H v d) (h : keyD d = some ks) : ∃ b, v = .ref b ∧ H b = some (.tup (ks.map kV)) := by
  cases d <;> first | (cases h; done) | skip
  cases r with
  | tup n e x => exact ⟨_, rfl, by rw [e, keyEs_rp x h]⟩
theorem keyOf_rp {O : Addr → Prop} {H : Hp} (k : Key) : Rp K O H (kV k) (keyOf k) := by
  cases k with
  | inl i => exact .int i
  | inr s => exact .str s
theorem keyOfs_rp {O : Addr → Prop} {H : Hp} : ∀ (ks : List Key), RpA K O H (ks.map kV) (ks.map keyOf)
  | [] => .nil
  | k :: ks => .cons (keyOf_rp k) (keyOfs_rp ks)
/-! ### look-up, store -/
def getK (kvs : List (List Key × D)) (k : List Key) : Option D := (kvs.find? fun kv => decide (kv.1 = k)).map (·.2)
def setK (kvs : List (List Key × D)) (k : List Key) (d : D) : List (List Key × D) :=
  if (kvs.any fun kv => decide (kv.1 = k)) = true then kvs.map (fun kv => if kv.1 = k then (kv.1, d) else kv) else kvs ++ [(k, d)]
/-- a dict's pairs and their data -/
def RpD (K : PySem.W.Frag) (O : Addr → Prop) (H : Hp) (xs : List (List Key × V)) (kvs : List (List Key × D)) : Prop := xs.map (·.1) = kvs.map (·.1) ∧ RpA K O H (xs.map (·.2)) (kvs.map (·.2))
theorem RpD.nil {O : Addr → Prop} {H : Hp} : RpD K O H [] [] := ⟨rfl, .nil⟩
theorem RpD.inv {O : Addr → Prop} {H : Hp} {x : List Key × V} {xs : List (List Key × V)} {kvs : List (List Key × D)} (r : RpD K O H (x :: xs) kvs) : ∃ d kvs', kvs = (x.1, d) :: kvs' ∧ Rp K O H x.2 d ∧ RpD K O H xs kvs' := by
  obtain ⟨e, r⟩ := r
  cases kvs with
  | nil => cases e
  | cons kv kvs =>
    rw [List.map_cons, List.map_cons] at e r
    have e1 := (List.cons.inj e).1
    cases r with
    | cons a b => exact ⟨kv.2, kvs, by rw [e1], a, (List.cons.inj e).2, b⟩
theorem RpD.get {O : Addr → Prop} {H : Hp} : ∀ {xs : List (List Key × V)} {kvs : List (List Key × D)} (k : List Key), RpD K O H xs kvs →
    (getK kvs k = none ∧ valV xs k = none) ∨ ∃ d v, getK kvs k = some d ∧ valV xs k = some v ∧ Rp K O H v d
  | [], kvs, k, r => by
    obtain ⟨e, _⟩ := r
    cases kvs with
    | nil => exact .inl ⟨rfl, rfl⟩
    | cons a b => cases e
  | x :: xs, kvs, k, r => by
    obtain ⟨d, kvs', rfl, h1, h2⟩ := r.inv
    by_cases hk : x.1 = k
    · refine .inr ⟨d, x.2, ?_, valV_pos hk, h1⟩
      unfold getK
      rw [List.find?_cons, decide_eq_true hk]
      rfl
    · have ih := RpD.get k h2
      rw [valV_neg hk]
      have e : getK ((x.1, d) :: kvs') k = getK kvs' k := by
        unfold getK
        rw [List.find?_cons, decide_eq_false hk]
      rw [e]
      exact ih
theorem RpD.set {O : Addr → Prop} {H : Hp} {xs : List (List Key × V)} {kvs : List (List Key × D)} (k : List Key) {v : V} {d : D} (r : RpD K O H xs kvs) (hv : Rp K O H v d) : RpD K O H (putK xs k v) (setK kvs k d) := by
  have ha : (xs.any fun kv => decide (kv.1 = k)) = (kvs.any fun kv => decide (kv.1 = k)) := by
    have e1 : ∀ l : List (List Key × V), (l.any fun kv => decide (kv.1 = k)) = ((l.map (·.1)).any fun z => decide (z = k)) := fun l => by rw [List.any_map]; rfl
    have e2 : ∀ l : List (List Key × D), (l.any fun kv => decide (kv.1 = k)) = ((l.map (·.1)).any fun z => decide (z = k)) := fun l => by rw [List.any_map]; rfl
    rw [e1, e2, r.1]
  unfold putK setK
  rw [ha]
  split
  · have go : ∀ (xs : List (List Key × V)) (kvs : List (List Key × D)), RpD K O H xs kvs → RpD K O H (xs.map fun kv => if kv.1 = k then (kv.1, v) else kv) (kvs.map fun kv => if kv.1 = k then (kv.1, d) else kv) := by
      intro xs
      induction xs with
      | nil =>
        intro kvs r
        cases kvs with
        | nil => exact .nil
        | cons a b => cases r.1
      | cons x xs ih =>
        intro kvs r
        obtain ⟨d', kvs', rfl, h1, h2⟩ := r.inv
        have ih := ih kvs' h2
        rw [List.map_cons, List.map_cons]
        by_cases hk : x.1 = k
        · rw [if_pos hk, if_pos hk]
          exact ⟨by rw [List.map_cons, List.map_cons, ih.1], .cons hv ih.2⟩
        · rw [if_neg hk, if_neg hk]
          exact ⟨by rw [List.map_cons, List.map_cons, ih.1], .cons h1 ih.2⟩
    exact go xs kvs r
  · exact ⟨by rw [List.map_append, List.map_append, r.1]; rfl, by rw [List.map_append, List.map_append]; exact r.2.app (.one hv)⟩
theorem RpD.kp {O O' : Addr → Prop} {H H' : Hp} (k : Kp O H O' H') {xs : List (List Key × V)} {kvs : List (List Key × D)} (r : RpD K O H xs kvs) : RpD K O' H' xs kvs := ⟨r.1, r.2.kp k⟩
theorem RpD.len {O : Addr → Prop} {H : Hp} {xs : List (List Key × V)} {kvs : List (List Key × D)} (r : RpD K O H xs kvs) : xs.length = kvs.length := by
  have := congrArg List.length r.1
  rw [List.length_map, List.length_map] at this
  exact this
/-! ### a dict in a slot, owned or not -/
def dctAt (g : Gm) (i : Nat) : Option (List (List Key × D)) := match g[i]? with
  | some (some (.o (.dct kvs))) => some kvs
  | some (some (.v (.dct kvs))) => some kvs
  | _ => none
theorem dct_rp {H0 H : Hp} {Oc : Addr → Prop} {pins : Pn} {ow : OW} {σ : L2.St} {g : Gm} {i : Nat} {kvs : List (List Key × D)} (R : Reps K H0 Oc pins ow σ H g) (h : dctAt g i = some kvs) :
    ∃ a, σ[i]? = some (some (.ref a)) ∧ ∀ H', Ex H H' → ∃ xs, H' a = some (.dT xs) ∧ RpD K (OO Oc ow) H' xs kvs := by
  unfold dctAt at h
  split at h
  · rename_i kvs' e
    cases h
    obtain ⟨a, h1, h2, xs, h3, h4, h5⟩ := R.own i _ e
    exact ⟨a, h2, fun H' ex => ⟨xs, ex _ _ h3, h4, h5.ex ex⟩⟩
  · rename_i kvs' e
    cases h
    obtain ⟨v, h1, r⟩ := R.val i _ e
    cases r with
    | dct n h3 h4 h5 => exact ⟨_, h1, fun H' ex => ⟨_, ex _ _ h3, h4, h5.ex ex⟩⟩
  · cases h
/-- d[k] -/
def dIxO (i : Nat) (k : DF) : DF := fun g => (dctAt g i).bind fun kvs => (k g).bind fun x => (keyD x).bind fun ks => getK kvs ks
def dGetO (i : Nat) (k x : DF) : DF := fun g => (dctAt g i).bind fun kvs => (k g).bind fun y => (keyD y).bind fun ks => (x g).bind fun z => some ((getK kvs ks).getD z)
def dInO (i : Nat) (k : DF) : DF := fun g => (k g).bind fun y => (dctAt g i).bind fun kvs => (keyD y).bind fun ks => some (.bl (getK kvs ks).isSome)
def dNotInO (i : Nat) (k : DF) : DF := fun g => (k g).bind fun y => (dctAt g i).bind fun kvs => (keyD y).bind fun ks => some (.bl (!(getK kvs ks).isSome))
section
variable {tk tx tv : TE} {k x a : DF} {i : Nat}
theorem er_dix (hk : ER K tk k) : ER K (tDGet (tVar i) tk) (dIxO i k) := fun g d h H0 Oc pins ow σ H R Q q => by
  unfold dIxO at h
  cases e1 : dctAt g i with
  | none => rw [e1] at h; cases h
  | some kvs =>
    rw [e1, Option.bind_some] at h
    cases e2 : k g with
    | none => rw [e2] at h; cases h
    | some y =>
      rw [e2, Option.bind_some] at h
      cases e3 : keyD y with
      | none => rw [e3] at h; cases h
      | some ks =>
        rw [e3, Option.bind_some] at h
        obtain ⟨a, s1, s2⟩ := dct_rp R e1
        refine ⟨.ref a, s1, ?_⟩
        refine hk g y e2 H0 Oc pins ow σ H R _ fun w H1 ex1 r1 => ?_
        obtain ⟨xs, h3, h4⟩ := s2 H1 ex1
        obtain ⟨b, rfl, hb⟩ := keyD_rp r1 e3
        rcases h4.get ks with ⟨z, _⟩ | ⟨d', v, z1, z2, z3⟩
        · rw [z] at h; cases h
        · rw [z1] at h
          cases h
          exact ⟨a, v, rfl, z2 ▸ DGet.t h3 hb, q v H1 ex1 z3⟩
theorem er_dget (hk : ER K tk k) (hx : ER K tx x) : ER K (tDGet2 (tVar i) tk tx) (dGetO i k x) := fun g d h H0 Oc pins ow σ H R Q q => by
  unfold dGetO at h
  cases e1 : dctAt g i with
  | none => rw [e1] at h; cases h
  | some kvs =>
    rw [e1, Option.bind_some] at h
    cases e2 : k g with
    | none => rw [e2] at h; cases h
    | some y =>
      rw [e2, Option.bind_some] at h
      cases e3 : keyD y with
      | none => rw [e3] at h; cases h
      | some ks =>
        rw [e3, Option.bind_some] at h
        cases e4 : x g with
        | none => rw [e4] at h; cases h
        | some z =>
          rw [e4, Option.bind_some] at h
          cases h
          obtain ⟨a, s1, s2⟩ := dct_rp R e1
          obtain ⟨xs0, h0, _⟩ := s2 H (Evl.Ex.refl H)
          refine ⟨.ref a, s1, a, rfl, .inr ⟨xs0, .inl h0⟩, ?_⟩
          refine hk g y e2 H0 Oc pins ow σ H R _ fun w H1 ex1 r1 => ?_
          refine hx g z e4 H0 Oc pins ow σ H1 (R.grow ex1) _ fun u H2 ex2 r2 => ?_
          obtain ⟨xs, h3, h4⟩ := s2 H2 (ex1.trans ex2)
          obtain ⟨b, rfl, hb⟩ := keyD_rp (r1.ex ex2) e3
          rcases h4.get ks with ⟨z1, z2⟩ | ⟨d', v, z1, z2, z3⟩
          · exact ⟨none, z2 ▸ DGet.t h3 hb, q u H2 (ex1.trans ex2) (by rw [z1]; exact r2)⟩
          · exact ⟨some v, z2 ▸ DGet.t h3 hb, q v H2 (ex1.trans ex2) (by rw [z1]; exact z3)⟩
theorem er_din (hk : ER K tk k) : ER K (tDIn tk (tVar i)) (dInO i k) := fun g d h H0 Oc pins ow σ H R Q q => by
  unfold dInO at h
  cases e2 : k g with
  | none => rw [e2] at h; cases h
  | some y =>
    rw [e2, Option.bind_some] at h
    cases e1 : dctAt g i with
    | none => rw [e1] at h; cases h
    | some kvs =>
      rw [e1, Option.bind_some] at h
      cases e3 : keyD y with
      | none => rw [e3] at h; cases h
      | some ks =>
        rw [e3, Option.bind_some] at h
        cases h
        obtain ⟨a, s1, s2⟩ := dct_rp R e1
        refine hk g y e2 H0 Oc pins ow σ H R _ fun w H1 ex1 r1 => ⟨.ref a, s1, ?_⟩
        obtain ⟨xs, h3, h4⟩ := s2 H1 ex1
        obtain ⟨b, rfl, hb⟩ := keyD_rp r1 e3
        rcases h4.get ks with ⟨z1, z2⟩ | ⟨d', v, z1, z2, z3⟩
        · exact ⟨a, none, rfl, z2 ▸ DGet.t h3 hb, q _ H1 ex1 (by rw [z1]; exact .bl _)⟩
        · exact ⟨a, some v, rfl, z2 ▸ DGet.t h3 hb, q _ H1 ex1 (by rw [z1]; exact .bl _)⟩
theorem er_dnin (hk : ER K tk k) : ER K (tDNotIn tk (tVar i)) (dNotInO i k) := fun g d h H0 Oc pins ow σ H R Q q => by
  unfold dNotInO at h
  cases e2 : k g with
  | none => rw [e2] at h; cases h
  | some y =>
    rw [e2, Option.bind_some] at h
    cases e1 : dctAt g i with
    | none => rw [e1] at h; cases h
    | some kvs =>
      rw [e1, Option.bind_some] at h
      cases e3 : keyD y with
      | none => rw [e3] at h; cases h
      | some ks =>
        rw [e3, Option.bind_some] at h
        cases h
        obtain ⟨a, s1, s2⟩ := dct_rp R e1
        refine hk g y e2 H0 Oc pins ow σ H R _ fun w H1 ex1 r1 => ⟨.ref a, s1, ?_⟩
        obtain ⟨xs, h3, h4⟩ := s2 H1 ex1
        obtain ⟨b, rfl, hb⟩ := keyD_rp r1 e3
        rcases h4.get ks with ⟨z1, z2⟩ | ⟨d', v, z1, z2, z3⟩
        · exact ⟨a, none, rfl, z2 ▸ DGet.t h3 hb, q _ H1 ex1 (by rw [z1]; exact .bl _)⟩
        · exact ⟨a, some v, rfl, z2 ▸ DGet.t h3 hb, q _ H1 ex1 (by rw [z1]; exact .bl _)⟩
/-- {} -/
theorem eo_dnew : EO K tDNewT (fun _ => some (.dct [])) := fun g d h H0 Oc pins ow σ H R Q q => by
  cases h
  exact fun p hp => q p _ (Evl.Ex.new hp) hp ⟨[], upd_same, rfl, .nil⟩
/-- d[k] = v -/
def sPutO (i : Nat) (k a : DF) : SF := fun g => (a g).bind fun d => (k g).bind fun y => (keyD y).bind fun ks => match g[i]? with
  | some (some (.o (.dct kvs))) => if kvs.length < 100000 then some (.nx (g.set i (some (.o (.dct (setK kvs ks d)))))) else none
  | _ => none
theorem sr_put (hk : ER K tk k) (ha : ER K tv a) : SR K (sDPut (tVar i) tk tv) (sPutO i k a) := fun g out h H0 Oc pins ow σ H R De P => by
  unfold sPutO at h
  cases e1 : a g with
  | none => rw [e1] at h; cases h
  | some d =>
    rw [e1, Option.bind_some] at h
    cases e2 : k g with
    | none => rw [e2] at h; cases h
    | some y =>
      rw [e2, Option.bind_some] at h
      cases e3 : keyD y with
      | none => rw [e3] at h; cases h
      | some ks =>
        rw [e3, Option.bind_some] at h
        split at h
        · rename_i kvs hd
          split at h
          · rename_i hl
            cases h
            obtain ⟨p, h1, h2, xs, h3, h4⟩ := R.own i _ hd
            have h4 : RpD K (OO Oc ow) H xs kvs := h4
            refine ha g d e1 H0 Oc pins ow σ H R _ fun v H1 ex1 r1 => ⟨.ref p, h2, ?_⟩
            refine hk g y e2 H0 Oc pins ow σ H1 (R.grow ex1) _ fun w H2 ex2 r2 => ?_
            obtain ⟨b, rfl, hb⟩ := keyD_rp r2 e3
            have kp : Kp (OO Oc ow) H2 (OO Oc ow) (upd H2 p (.dT (putK xs ks v))) := fun b o n q => ⟨n, by rw [upd_ne (fun z => n (.inr ⟨i, by rw [z]; exact h1⟩))]; exact q⟩
            refine ⟨p, _, rfl, DPut.t (ex2 _ _ (ex1 _ _ h3)) hb (Evl.sz_lt (by rw [h4.len]; exact hl)), ?_⟩
            have rr : RpD K (OO Oc ow) (upd H2 p (.dT (putK xs ks v))) (putK xs ks v) (setK kvs ks d) := ((h4.kp (Kp.ex (ex1.trans ex2))).set ks (r1.ex ex2)).kp kp
            exact P ow σ _ (((R.grow ex1).grow ex2).upd hd h1 ⟨_, upd_same, rr⟩)
          · cases h
        · cases h
end
end Zk
end

section
set_option Elab.async false
set_option linter.all false
set_option maxRecDepth 100000
set_option autoImplicit false
set_option maxHeartbeats 2000000
/-! A comprehension over the pairs of a dict of one's own. -/
namespace Zk
open PySem L2
open Evl (Ex)
def bareG (g : Gm) (i : Nat) : Gm := (frzAll g).set i none
def pairsD (kvs : List (List Key × D)) : List D := kvs.map fun kv => .tup [keyT kv.1, kv.2]
def dLcIt (i : Nat) (f : DGF) (ft : DTF) (fe : DF) (vs : List Nat) : DF := fun g => match g[i]? with
  | some (some (.o (.dct kvs))) => if free (bareG g i) vs = true ∧ kvs.length ≤ 100000 then (match lcL f ft fe (wipeG (bareG g i) vs) (pairsD kvs) with
      | some es => if es.all D.flat then some (.lst es) else none
      | none => none) else none
  | _ => none
variable {K : PySem.W.Frag}
theorem wk_items {a : Addr} {od : Obj} {xs : List (List Key × V)} {kvs : List (List Key × D)} (hk : xs.map (·.1) = kvs.map (·.1)) :
    WkP K (Itit a od xs) (pairsD kvs) (List.zip (xs.map (·.2)) (kvs.map (·.2))) (fun H => H a = some (.frz od (.dT xs))) where
  go := fun O i H hi h z => by
    have := congrArg List.length hk
    rw [List.length_map, List.length_map] at this
    unfold pairsD at hi
    rw [List.length_map] at hi
    exact ⟨z, by omega⟩
  yld := fun O i H w H' e o h y he => by
    obtain ⟨T, k, v, q, h1, rfl, hq, hT, rfl⟩ := y
    unfold pairsD at he
    rw [List.getElem?_map] at he
    cases e2 : kvs[i]? with
    | none => rw [e2] at he; cases he
    | some kv =>
      rw [e2] at he
      cases he
      have ek : k = kv.1 := by
        have a1 := congrArg (fun l : List (List Key) => l[i]?) hk
        simp only [List.getElem?_map, h1, e2, Option.map_some] at a1
        exact Option.some.inj a1
      have hp : (v, kv.2) ∈ List.zip (xs.map (·.2)) (kvs.map (·.2)) := by
        refine List.mem_of_getElem? (i := i) ?_
        rw [List.getElem?_zip_eq_some]
        simp [List.getElem?_map, h1, e2]
      have ex := Evl.Ex.new (o := .tup [.ref q, v]) hT
      subst ek
      refine ⟨ex, .tup (fun z => (o T z).1 hT) upd_same (.cons (.tup (fun z => (o q z).2 _ hq) (ex _ _ hq) (keyOfs_rp _)) (.cons ((h _ hp).ex ex) .nil))⟩
  stop := fun O H h z => by
    have := congrArg List.length hk
    rw [List.length_map, List.length_map] at this
    refine ⟨z, ?_⟩
    unfold pairsD
    rw [List.length_map]
    omega
theorem bare_reps {H0 H : Hp} {Oc : Addr → Prop} {pins : Pn} {ow : OW} {σ : L2.St} {g : Gm} {i : Nat} {a : Addr} {d : D} {od : Obj} {u : HO} (R : Reps K H0 Oc pins ow σ H g) (hg : g[i]? = some (some (.o d))) (ha : ow i = some a) :
    Reps K (upd H a (.frz od u)) (fun b => b = a) ⟨[], none⟩ noOw σ (upd H a (.frz od u)) (bareG g i) where
  len := by unfold bareG Zk.frzAll; rw [List.length_set, List.length_map]; exact R.len
  ex := Evl.Ex.refl _
  oc := fun b z => by rw [z]; unfold Lv; rw [upd_same]; exact ⟨fun z => (by cases z), fun _ z => (by cases z)⟩
  fr := fun i a h => by cases h
  inj := fun i j a h => by cases h
  is := fun i a h => by cases h
  val := fun j d' h => by
    have k : Kp (OO Oc ow) H (OO (fun b => b = a) noOw) (upd H a (.frz od u)) := fun b o n q => by
      have nb : b ≠ a := fun z => n (.inr ⟨i, by rw [z]; exact ha⟩)
      exact ⟨fun z => z.elim nb (fun ⟨_, z⟩ => by cases z), by rw [upd_ne nb]; exact q⟩
    unfold bareG at h
    by_cases e : j = i
    · subst e
      rw [List.getElem?_set] at h
      simp at h
    · rw [List.getElem?_set_ne (Ne.symm e), frzAll_get] at h
      cases q : g[j]? with
      | none => rw [q] at h; cases h
      | some o =>
        rw [q] at h
        cases o with
        | none => cases h
        | some w =>
          cases w with
          | v d2 =>
            cases h
            obtain ⟨v, h1, h2⟩ := R.val j d' q
            exact ⟨v, h1, h2.kp k⟩
          | o d2 =>
            cases h
            obtain ⟨b, h1, h2, h3⟩ := R.own j d' q
            have nb : b ≠ a := fun z => e (R.inj j i b h1 (by rw [z]; exact ha))
            refine ⟨.ref b, h2, ?_⟩
            have h4 : RpO K (OO (fun b => b = a) noOw) (upd H a (.frz od u)) b d' := h3.kp k (upd_ne nb)
            exact h4.rp (Kp.refl _ _) fun z => z.elim nb (fun ⟨_, z⟩ => by cases z)
  own := fun j d' h => by
    unfold bareG at h
    by_cases e : j = i
    · subst e
      rw [List.getElem?_set] at h
      simp at h
    · rw [List.getElem?_set_ne (Ne.symm e), frzAll_get] at h
      cases q : g[j]? with
      | none => rw [q] at h; cases h
      | some o =>
        rw [q] at h
        cases o with
        | none => cases h
        | some w => cases w <;> cases h
  pin := fun p h => by cases h
  slf := fun x h => by cases h
theorem er_lcIt {i : Nat} {tg : TG} {f : DGF} {tte : TT} {ft : DTF} {tee : TE} {fe : DF} {vs : List Nat} (hg : GRc K tg f vs) (ht : TR K tte ft) (he : ER K tee fe) : ER K (tLockE (tLc (iItemsT (tVar i)) tg tte tee vs)) (dLcIt i f ft fe vs) := fun g d h H0 Oc pins ow σ H R Q q => by
  unfold dLcIt at h
  split at h
  · rename_i kvs hd
    split at h
    · rename_i hf
      split at h
      · rename_i es el
        split at h
        · rename_i hfl
          cases h
          obtain ⟨a, h1, h2, xs, h3, h4⟩ := R.own i _ hd
          refine ⟨a, .dT xs, h3, trivial, fun od => ?_⟩
          refine ⟨.ref a, h2, a, od, xs, rfl, upd_same, ?_⟩
          have hl : (pairsD kvs).length ≤ 100000 := by unfold pairsD; rw [List.length_map]; exact hf.2
          have hps : ∀ p ∈ List.zip (xs.map (·.2)) (kvs.map (·.2)), Rp K (OO (fun b => b = a) noOw) (upd H a (.frz od (.dT xs))) p.1 p.2 := fun p hp => by
            have k : Kp (OO Oc ow) H (OO (fun b => b = a) noOw) (upd H a (.frz od (.dT xs))) := fun b o n q => by
              have nb : b ≠ a := fun z => n (.inr ⟨i, by rw [z]; exact h1⟩)
              exact ⟨fun z => z.elim nb (fun ⟨_, z⟩ => by cases z), by rw [upd_ne nb]; exact q⟩
            have all : ∀ {vs : List V} {ds : List D}, RpA K (OO Oc ow) H vs ds → ∀ p ∈ List.zip vs ds, Rp K (OO Oc ow) H p.1 p.2 := by
              intro vs
              induction vs with
              | nil => intro ds _ p hp; simp at hp
              | cons v vs ih =>
                intro ds r p hp
                cases r with
                | cons r rr =>
                  rw [List.zip_cons_cons] at hp
                  rcases List.mem_cons.mp hp with e | e
                  · rw [e]; exact r
                  · exact ih rr p e
            exact (all h4.2 p hp).kp k
          refine lc_go (Q := fun v H' => H' a = some (.frz od (.dT xs)) ∧ Q v (upd H' a (.dT xs))) (wk_items h4.1) hg ht he (bare_reps R hd h1) hf.1 hps hl el (fun H' e => e _ _ upd_same) fun p H' hp e' r => ⟨e' _ _ upd_same, ?_⟩
          have npa : p ≠ a := fun z => by rw [z, upd_same] at hp; cases hp
          have hp0 : H p = none := by rw [upd_ne npa] at hp; exact hp
          obtain ⟨ys, y1, y2⟩ := r
          refine q _ _ (fun b o z => ?_) (.lst (R.new hp0) (by rw [upd_ne npa]; exact y1) (y2.flats hfl))
          by_cases e : b = a
          · rw [e] at z ⊢
            rw [upd_same, ← z, h3]
          · rw [upd_ne e]
            exact e' _ _ (by rw [upd_ne e]; exact z)
        · cases h
      · cases h
    · cases h
  · cases h
end Zk
end

section
set_option Elab.async false
set_option linter.all false
set_option maxRecDepth 100000
set_option autoImplicit false
set_option maxHeartbeats 2000000
/-! setdefault with tuple keys; while; extend; [::-1]; calls with keywords. -/
namespace Zk
open PySem PySem.Spec PyProof.Rows L2
open Evl (Ex)
section
variable {X : Cx} {pins : List (Addr × Obj)} {σ : L2.St} {H : Hp} {s : Shared} {a b : Addr} {r : Value} {d : V} {k : List Key} {A : Around} {E : Value → Shared → Prop}
theorem d_setdT {kvs : List (List Key × V)} {Q : Value → Shared → Prop} (hu : A.units + 1 < cLine) (I : L2.Inv X pins σ H s) (e : H a = some (.dT kvs)) (eb : H b = some (.tup (k.map kV))) (rd : L2.RelV d r) (hl : kvs.length < sizeLine)
    (h1 : ∀ v, valV kvs k = some v → ∀ (w' : Value) (s' : Shared), L2.Inv X pins σ H s' → L2.RelV v w' → Q w' s') (h2 : valV kvs k = none → ∀ (w' : Value) (s' : Shared), L2.Inv X pins σ (upd H a (.dT (putK kvs k d))) s' → L2.RelV d w' → Q w' s') :
    wpAny (model X.prog X.w) A (call (.builtin "dict.setdefault") [.ref a, .ref b, r]) Q E s := by
  obtain ⟨z, hd, xs, rel, dd⟩ := dt_of I.hok e
  have hz : xs.length ≤ sizeLine := by rw [← Paired.length rel]; exact z
  refine call_meetsIn PySem.F.slot_dict_setdefault dd.typeIs PySem.F.entry_dict_setdefault (PySem.F.args_dict_setdefault_3 _ _ _) (meetsH_dict_setdefault (tupleKind (mixKind X.prog X.w)) a b hd r) ⟨tupleKind_room_in1 hu, k, xs, key_of I.hok eb, dd, hz, fun p hp => ?_, fun hn h' dd' hs => ?_⟩
  · have q := rel.val k
    rw [hp] at q
    cases q0 : valV kvs k with
    | none => rw [q0] at q; exact (show False from q).elim
    | some v0 => rw [q0] at q; exact h1 v0 q0 _ _ (I.tok _) q
  · have q := rel.val k
    rw [hn] at q
    cases q0 : valV kvs k with
    | some v0 => rw [q0] at q; exact (show False from q).elim
    | none =>
      have hl2 : (putK kvs k d).length ≤ sizeLine := by have := length_putK kvs k d; omega
      obtain ⟨q, es, ep, hq, h2', h3, h4, _, h5⟩ := dd'
      refine h2 q0 _ _ (d_write (t' := s.toks + (tupleKind (mixKind X.prog X.w)).draws k) I (by rw [e]; exact True.intro) hs ⟨q, hq⟩ ⟨hl2, hd, _, (rel.put k eb rd).keeps fun c ys ec => ?_, q, es, ep, hq, h2', h3, h4, h5⟩) rd
      rw [upd_ne (ne_of ec e (fun z => nomatch z))]
      exact ec
end
def tDSetdT (td ty tx : TE) : TE := fun σ H Q => td σ H fun x H1 => ∃ a, x = .ref a ∧ IsD H1 a ∧ ty σ H1 fun y H2 => tx σ H2 fun z H3 => ∃ (kvs : List (List Key × V)) (k : List Key) (b : Addr), H3 a = some (.dT kvs) ∧ y = .ref b ∧ H3 b = some (.tup (k.map kV)) ∧ kvs.length < sizeLine ∧
  (∀ v, valV kvs k = some v → Q v H3) ∧ (valV kvs k = none → Q z (upd H3 a (.dT (putK kvs k z))))
section
variable {X : Cx} {o e f : Expr} {td ty tx : TE} {apos cpos : Pos}
theorem pe_dsetdT (hu : X.A.units + 1 < cLine) (ho : PE X o td) (he : PE X e ty) (hf : PE X f tx) (m : M2 X o "setdefault" apos e f cpos) : PE X (.Call (.Attribute o "setdefault" apos) [e, f] [] cpos) (tDSetdT td ty tx) := by
  refine ⟨fun pins s σ H Q I h => ?_⟩
  refine wpAny_Call_method m.base m.few m.line PySem.F.plainAttrs_dict PySem.F.slot_dict_setdefault PySem.F.type_dict_setdefault (thn (ho.run pins s σ H _ I h) fun u s1 ⟨x, H1, I1, rx, a, ex, d, q1⟩ => ?_)
  subst ex
  obtain rfl : u = Value.ref a := rx
  obtain ⟨t1, t2, _⟩ := isD_at I1 d
  refine ⟨t1, t2, ?_⟩
  rw [m.trees]
  refine Calls.callWith_builtin rfl (Calls.evalArgs_plain (Calls.spliced_cons (thn (he.run pins s1 σ H1 _ I1 q1) fun iv s2 ⟨y, H2, I2, ry, q2⟩ =>
    Calls.spliced_cons (thn (hf.run pins s2 σ H2 _ I2 q2) fun fv s3 ⟨z, H3, I3, rz, kvs, k, b, ea, ey, eb, hl, q3, q4⟩ => Calls.spliced_nil ?_))))
  subst ey
  obtain rfl : iv = Value.ref b := ry
  exact d_setdT hu I3 ea eb rz hl (fun v hv w' s4 I4 rw' => ⟨v, _, I4, rw', q3 v hv⟩) fun hn w' s4 I4 rw' => ⟨z, _, I4, rw', q4 hn⟩
end
/-! ### while -/
variable {K : PySem.W.Frag}
def whileD (t : DTF) (s : SF) : Nat → SF
  | 0, _ => none
  | n + 1, g => (t g).bind fun b => if b = true then (s g).bind fun o => match o with
    | .nx g2 => whileD t s n g2
    | .ct g2 => whileD t s n g2
    | .bk g2 => some (.nx g2)
    | .rt w => some (.rt w) else some (.nx g)
def sWhile (t : DTF) (s : SF) : SF := whileD t s 1000000
theorem sr_while {tt : TT} {t : DTF} {ts : TS} {s : SF} (ht : TR K tt t) (hs : SR K ts s) : SR K (tWhile tt ts) (sWhile t s) := fun g out h H0 Oc pins ow σ H R De P => by
  refine ⟨fun m σ' H' => ∃ ow' g', Reps K H0 Oc pins ow' σ' H' g' ∧ whileD t s m g' = some out, ⟨1000000, ow, g, R, h⟩, ?_⟩
  rintro m σ' H' ⟨ow', g', R', hl⟩
  cases m with
  | zero => cases hl
  | succ m =>
    unfold whileD at hl
    cases et : t g' with
    | none => rw [et] at hl; cases hl
    | some b =>
      rw [et, Option.bind_some] at hl
      refine ht g' b et H0 Oc pins ow' σ' H' R' _ fun H1 e1 => ?_
      cases b with
      | false =>
        rw [if_neg Bool.false_ne_true] at hl ⊢
        cases hl
        exact P ow' σ' H1 (R'.grow e1)
      | true =>
        rw [if_pos rfl] at hl ⊢
        cases e4 : s g' with
        | none => rw [e4] at hl; cases hl
        | some o =>
          rw [e4, Option.bind_some] at hl
          refine ⟨fun σ2 H2 => ∃ ow2 g2, Reps K H0 Oc pins ow2 σ2 H2 g2 ∧ whileD t s m g2 = some out, fun σ2 H2 p => ⟨m, Nat.lt_succ_self m, p⟩, ?_⟩
          refine hs g' o e4 H0 Oc pins ow' σ' H1 (R'.grow e1) _ ?_
          cases o with
          | nx g2 => exact fun ow3 σ3 H3 R3 => ⟨ow3, g2, R3, hl⟩
          | ct g2 => exact fun ow3 σ3 H3 R3 => ⟨ow3, g2, R3, hl⟩
          | bk g2 =>
            cases hl
            exact fun ow3 σ3 H3 R3 => P ow3 σ3 H3 R3
          | rt w =>
            cases hl
            cases w with
            | v d => exact P
            | o d => exact P
/-! ### xs.extend(a list), xs[::-1] -/
def sExt (i : Nat) (a : DF) : SF := fun g => (a g).bind fun d => match d, g[i]? with
  | .lst es, some (some (.o (.lst ds))) => if ds.length + es.length ≤ 100000 then some (.nx (g.set i (some (.o (.lst (ds ++ es)))))) else none
  | _, _ => none
theorem sr_ext {te : TE} {a : DF} {i : Nat} (ha : ER K te a) : SR K (tDrop (tBM K "list" rExtend (tVar i) (tCons te tNil))) (sExt i a) := fun g out h H0 Oc pins ow σ H R De P => by
  unfold sExt at h
  cases ea : a g with
  | none => rw [ea] at h; cases h
  | some d =>
    rw [ea, Option.bind_some] at h
    split at h
    · rename_i es ds hd
      split at h
      · rename_i hl
        cases h
        obtain ⟨p, h1, h2, xs, h3, h4⟩ := R.own i _ hd
        refine ⟨.ref p, h2, .inl ⟨rfl, _, .of h3⟩, ?_⟩
        refine ha g _ ea H0 Oc pins ow σ H R _ fun v H1 e1 r1 => ?_
        cases r1 with
        | @lst b zs _ nb e2 r2 =>
          have k : Kp (OO Oc ow) H1 (OO Oc ow) (upd H1 p (.lst (xs ++ zs))) := fun b o n q => ⟨n, by rw [upd_ne (fun z => n (.inr ⟨i, by rw [z]; exact h1⟩))]; exact q⟩
          refine ⟨p, b, xs, zs, rfl, rfl, e1 _ _ h3, e2, Evl.sz_of (by rw [h4.len, r2.len]; exact hl), P ow σ _ ((R.grow e1).upd hd h1 ⟨xs ++ zs, upd_same, RpA.app ((h4.ex e1).kp k) (r2.kp k)⟩)⟩
      · cases h
    · cases h
theorem er_revL {te : TE} {a : DF} (ha : ER K te a) : ER K (tRevL K te) (d1 revD a) := fun g d h H0 Oc pins ow σ H R Q q => by
  unfold d1 at h
  cases ea : a g with
  | none => rw [ea] at h; cases h
  | some x =>
    rw [ea, Option.bind_some] at h
    refine ha g x ea H0 Oc pins ow σ H R _ fun v H1 e1 r1 => ?_
    unfold revD at h
    split at h
    · cases h
      cases r1 with
      | lst n e r => exact ⟨_, _, rfl, .of e, rr_newL (R.grow e1).oo (fun w H' e' r' => q w H' (e1.trans e') r') r.reverse⟩
    · cases h
/-! ### calls with what is given by name, or left to stand -/
def dCallD (n : Nat) (dd : List D) (gf : PF) (a : DAF) : DF := fun g => (a g).bind fun ds => if (ds ++ dd).length = n then (gf (ds ++ dd)).map Wd.d else none
theorem er_callD {n : Nat} {gf : PF} {E : XK} {ta : TA} {a : DAF} {dv : List V} {dd : List D} (hv : ∀ O H, RpA K O H dv dd) (ha : AR K ta a) : ER K (tCall (spG K n gf) dv E ta) (dCallD n dd gf a) := fun g d h H0 Oc pins ow σ H R Q q => by
  unfold dCallD at h
  cases ea : a g with
  | none => rw [ea] at h; cases h
  | some ds =>
    rw [ea, Option.bind_some] at h
    split at h
    · rename_i hn
      cases ew : gf (ds ++ dd) with
      | none => rw [ew] at h; cases h
      | some wd =>
        rw [ew] at h
        cases h
        refine ha g ds ea H0 Oc pins ow σ H R _ fun vs H1 e1 r1 => ?_
        have rr := r1.app (hv (OO Oc ow) H1)
        refine ⟨OO Oc ow, _, wd, by rw [rr.len]; exact hn, (R.grow e1).oo, rr, ew, ?_⟩
        cases wd with
        | v d => exact fun v H2 e2 r2 => q v H2 (e1.trans e2) r2
        | o d => exact fun p H2 e2 hp r2 => q _ H2 (e1.trans e2) (r2.toRp ((R.grow e1).new hp))
    · cases h
def gApp {α : Type} (n m : Nat) (xs ys : List α) : List α := if xs.length = n ∧ ys.length = m then xs ++ ys else []
def dCallK (n m : Nat) (gf : PF) (a b : DAF) : DF := fun g => (a g).bind fun ds => (b g).bind fun es => if ds.length = n ∧ es.length = m then (gf (ds ++ es)).map Wd.d else none
theorem er_callK {n m k : Nat} {gf : PF} {E : XK} {ta tb : TA} {a b : DAF} (hk : n + m = k) (ha : AR K ta a) (hb : AR K tb b) : ER K (tCallK (spG K k gf) (gApp n m) E ta tb) (dCallK n m gf a b) := fun g d h H0 Oc pins ow σ H R Q q => by
  unfold dCallK at h
  cases ea : a g with
  | none => rw [ea] at h; cases h
  | some ds =>
    rw [ea, Option.bind_some] at h
    cases eb : b g with
    | none => rw [eb] at h; cases h
    | some es =>
      rw [eb, Option.bind_some] at h
      split at h
      · rename_i hn
        cases ew : gf (ds ++ es) with
        | none => rw [ew] at h; cases h
        | some wd =>
          rw [ew] at h
          cases h
          refine ha g ds ea H0 Oc pins ow σ H R _ fun vs H1 e1 r1 => ?_
          refine hb g es eb H0 Oc pins ow σ H1 (R.grow e1) _ fun zs H2 e2 r2 => ?_
          have rr := (r1.ex e2).app r2
          have hg : gApp n m vs zs = vs ++ zs := if_pos ⟨by rw [r1.len]; exact hn.1, by rw [r2.len]; exact hn.2⟩
          refine ⟨OO Oc ow, _, wd, by rw [hg, rr.len, List.length_append, hn.1, hn.2]; exact hk, ((R.grow e1).grow e2).oo, by rw [hg]; exact rr, ew, ?_⟩
          cases wd with
          | v d => exact fun v H3 e3 r3 => q v H3 ((e1.trans e2).trans e3) r3
          | o d => exact fun p H3 e3 hp r3 => q _ H3 ((e1.trans e2).trans e3) (r3.toRp (((R.grow e1).grow e2).new hp))
      · cases h
theorem gApp_rel {n m : Nat} {vs : List V} {us : List Value} {zs : List V} {ws : List Value} (r : Vals vs us) (q : Vals zs ws) : Vals (gApp n m vs zs) (gApp n m us ws) := by
  unfold gApp
  rw [r.length, q.length]
  split
  · exact r.append q
  · exact .nil
end Zk
namespace Zk
open PySem L2
theorem gApp_len {α : Type} {n m p : Nat} {xs ys : List α} (h : (gApp n m xs ys).length = p + 1) : xs.length = n ∧ ys.length = m := by
  unfold gApp at h
  split at h
  · rename_i q; exact q
  · cases h
theorem hu1 {a : Nat} (h : a + 64 < cLine) : a + 1 < cLine := by omega
theorem funD_mk {K : PySem.W.Frag} {x qual : Str} {st : Stmt} {f D : Addr} {oc : Value} {od an : Option Addr} {osl : Array (Option Value)} {doc pm cdv ct : Value} {kw : Str} (l : K.lookup f = some ⟨oc, od, .func (PySem.W.fnOf x qual (defArgs st) (defBody st) (defScope st) .none (.ref D) doc pm an cdv ct), osl⟩)
    (c : PySem.W.codeIn K cdv qual = true) (k : PySem.W.keepIn K (.ref f) = true) (n : PySem.W.nsIn K D kw = some (some .none)) : FunD K x qual (defArgs st) (defBody st) (defScope st) [] [(kw, .non)] f (PySem.W.fnOf x qual (defArgs st) (defBody st) (defScope st) .none (.ref D) doc pm an cdv ct) :=
  ⟨⟨oc, od, .none, .ref D, doc, pm, an, cdv, ct, osl, rfl, l, c, .inl ⟨rfl, rfl⟩, .inr ⟨D, rfl, fun q hq => by
    rw [List.mem_singleton.mp hq]
    exact ⟨_, n, rfl⟩⟩⟩, k⟩
end Zk
namespace Zk
open PySem L2
open Evl (Ex)
variable {K : PySem.W.Frag}
/-- list(range(n)) -/
def lrD : D → Option D
  | .int n => if 0 ≤ n ∧ n ≤ 100000 then some (.lst (rngL 0 n.toNat)) else none
  | _ => none
theorem rgV_rp {O : Addr → Prop} {H : Hp} (n : Int) : RpA K O H (rgV 0 n) (rngL 0 n.toNat) := by
  unfold rgV rngL
  rw [Int.sub_zero]
  generalize List.range n.toNat = l
  induction l with
  | nil => exact .nil
  | cons i l ih => exact .cons (.int _) ih
theorem er_listRg {te : TE} {a : DF} (ha : ER K te a) : ER K (tLstRg (tRg1 te)) (d1 lrD a) := fun g d h H0 Oc pins ow σ H R Q q => by
  unfold d1 at h
  cases ea : a g with
  | none => rw [ea] at h; cases h
  | some x =>
    rw [ea, Option.bind_some] at h
    refine ha g x ea H0 Oc pins ow σ H R _ fun v H1 e1 r1 => ?_
    unfold lrD at h
    split at h
    · split at h
      · rename_i hn
        cases h
        cases r1
        exact ⟨_, rfl, RgOk.of_le (by decide) (by omega) (by decide) (by omega), rr_newL (R.grow e1).oo (fun w H' e' r' => q w H' (e1.trans e') r') (rgV_rp _)⟩
      · cases h
    · cases h
theorem eo_listRg {te : TE} {a : DF} (ha : ER K te a) : EO K (tLstRg (tRg1 te)) (d1 lrD a) := fun g d h H0 Oc pins ow σ H R Q q => by
  unfold d1 at h
  cases ea : a g with
  | none => rw [ea] at h; cases h
  | some x =>
    rw [ea, Option.bind_some] at h
    refine ha g x ea H0 Oc pins ow σ H R _ fun v H1 e1 r1 => ?_
    unfold lrD at h
    split at h
    · split at h
      · rename_i hn
        cases h
        cases r1
        exact ⟨_, rfl, RgOk.of_le (by decide) (by omega) (by decide) (by omega), fun p hp => q p _ (e1.trans (Evl.Ex.new hp)) (Evl.fresh_back e1 hp) ⟨_, upd_same, rgV_rp _⟩⟩
      · cases h
    · cases h
end Zk
namespace Zk
open PySem L2
open Evl (Ex)
variable {K : PySem.W.Frag}
/-- x += e, of ints -/
def sAugI (f : Int → Int → Int) (i : Nat) (a : DF) : SF := fun g => (dVar i g).bind fun x => (a g).bind fun y => match x, y with
  | .int x, .int y => (dName i (.int (f x y)) g).map .nx
  | _, _ => none
theorem sr_augI {f : Int → Int → Int} {i : Nat} {te : TE} {a : DF} (ha : ER K te a) : SR K (tAug i te (ipI f)) (sAugI f i a) := fun g out h H0 Oc pins ow σ H R De P => by
  unfold sAugI at h
  cases ex : dVar i g with
  | none => rw [ex] at h; cases h
  | some x =>
    rw [ex, Option.bind_some] at h
    cases ey : a g with
    | none => rw [ey] at h; cases h
    | some y =>
      rw [ey, Option.bind_some] at h
      split at h
      · rename_i x y
        cases ed : dName i (.int (f x y)) g with
        | none => rw [ed] at h; cases h
        | some g1 =>
          rw [ed] at h
          cases h
          unfold dName at ed
          split at ed
          · rename_i hi
            cases ed
            unfold dVar at ex
            split at ex
            · rename_i d' e
              cases ex
              obtain ⟨v, h1, r⟩ := R.val i _ e
              cases r
              refine ⟨.int x, h1, ?_⟩
              refine ha g _ ey H0 Oc pins ow σ H R _ fun w H1 e1 r1 => ?_
              cases r1
              exact ⟨x, y, rfl, rfl, P _ _ _ ((R.grow e1).setV hi (.int _))⟩
            · cases ex
          · cases ed
      · cases h
end Zk
end

section
set_option Elab.async false
set_option linter.all false
set_option maxRecDepth 100000
set_option autoImplicit false
set_option maxHeartbeats 2000000
/-! A dict of lists that are filled in their places. -/
namespace Zk
open PySem L2
open Evl (Ex)
variable {K : PySem.W.Frag}
abbrev SeatL : Type := List (List Key × List Int)
def addSeat (kvs : SeatL) (k : List Key) (i : Int) : SeatL := if (kvs.any fun kv => decide (kv.1 = k)) = true then kvs.map (fun kv => if kv.1 = k then (kv.1, kv.2 ++ [i]) else kv) else kvs ++ [(k, [i])]
def seatsD : Nat → List D → SeatL → Option SeatL
  | _, [], kvs => some kvs
  | n, .non :: ds, kvs => seatsD (n + 1) ds kvs
  | n, d :: ds, kvs => (keyD d).bind fun k => seatsD (n + 1) ds (addSeat kvs k (n : Int))
def seatD (kvs : SeatL) : D := .dct (kvs.map fun kv => (kv.1, .lst (iL kv.2)))
def tSeats : SF := fun g => match g with
  | [some (.v (.lst ds)), none, none, none] => if ds.length ≤ 100000 then (seatsD 0 ds []).map fun kvs => .rt (.o (seatD kvs)) else none
  | _ => none
/-- the dict at d, its lists new and each by itself -/
structure Dp (H0 H : Hp) (d : Addr) (xs : List (List Key × V)) (kvs : SeatL) : Prop where
  keys : xs.map (·.1) = kvs.map (·.1)
  nod : (kvs.map (·.1)).Nodup
  val : ∀ (j : Nat) (k : List Key) (es : List Int), kvs[j]? = some (k, es) → ∃ b, xs[j]? = some (k, .ref b) ∧ H0 b = none ∧ b ≠ d ∧ H b = some (.lst (es.map V.int))
  inj : ∀ (j l : Nat) (k k' : List Key) (b : Addr), xs[j]? = some (k, .ref b) → xs[l]? = some (k', .ref b) → j = l
theorem Dp.len {H0 H : Hp} {d : Addr} {xs : List (List Key × V)} {kvs : SeatL} (p : Dp H0 H d xs kvs) : xs.length = kvs.length := by
  have := congrArg List.length p.keys
  rw [List.length_map, List.length_map] at this
  exact this
theorem Dp.ex {H0 H H' : Hp} {d : Addr} {xs : List (List Key × V)} {kvs : SeatL} (p : Dp H0 H d xs kvs) (e : ∀ b o, H b = some o → b ≠ d → H' b = some o) : Dp H0 H' d xs kvs :=
  ⟨p.keys, p.nod, fun j k es h => let ⟨b, h1, h2, h3, h4⟩ := p.val j k es h; ⟨b, h1, h2, h3, e b _ h4 h3⟩, p.inj⟩
theorem any_key {α : Type} (l : List (List Key × α)) (k : List Key) : (l.any fun kv => decide (kv.1 = k)) = true ↔ k ∈ l.map (fun kv => kv.1) := by
  rw [List.any_eq_true, List.mem_map]
  exact ⟨fun ⟨x, h1, h2⟩ => ⟨x, h1, of_decide_eq_true h2⟩, fun ⟨x, h1, h2⟩ => ⟨x, h1, decide_eq_true h2⟩⟩
theorem valV_at {xs : List (List Key × V)} {k : List Key} {v : V} (h : valV xs k = some v) : ∃ j : Nat, xs[j]? = some (k, v) := by
  unfold valV at h
  cases e : xs.find? fun kv => decide (kv.1 = k) with
  | none => rw [e] at h; cases h
  | some kv =>
    rw [e] at h
    cases h
    have h1 : kv.1 = k := of_decide_eq_true (List.find?_some (p := fun kv : List Key × V => decide (kv.1 = k)) e)
    have h2 := List.mem_of_find?_eq_some e
    obtain ⟨j, hj⟩ := List.mem_iff_getElem?.mp h2
    exact ⟨j, by rw [hj, ← h1]⟩
theorem valV_no {xs : List (List Key × V)} {k : List Key} (h : valV xs k = none) : k ∉ xs.map (·.1) := fun z => by
  have e := valV_any k xs
  rw [h, (any_key xs k).mpr z] at e
  cases e
/-- one more item in the list of a key that is there -/
theorem Dp.more {H0 H : Hp} {d b : Addr} {xs : List (List Key × V)} {kvs : SeatL} (p : Dp H0 H d xs kvs) {k : List Key} {j : Nat} (hj : xs[j]? = some (k, .ref b)) (i : Int) :
    ∃ es, kvs[j]? = some (k, es) ∧ H b = some (.lst (es.map V.int)) ∧ Dp H0 (upd H b (.lst (es.map V.int ++ [.int i]))) d xs (addSeat kvs k i) := by
  have hk : (kvs.map (·.1))[j]? = some k := by rw [← p.keys, List.getElem?_map, hj]; rfl
  obtain ⟨es, e⟩ : ∃ es, kvs[j]? = some (k, es) := by
    rw [List.getElem?_map] at hk
    cases e : kvs[j]? with
    | none => rw [e] at hk; cases hk
    | some kv =>
      rw [e] at hk
      exact ⟨kv.2, by rw [← Option.some.inj hk]⟩
  · obtain ⟨b', h1, h2, h3, h4⟩ := p.val j k es e
    rw [hj] at h1
    cases h1
    refine ⟨es, e, h4, ?_⟩
    have hin : k ∈ kvs.map (·.1) := List.mem_map.mpr ⟨(k, es), List.mem_of_getElem? e, rfl⟩
    have ea : addSeat kvs k i = kvs.map fun kv => if kv.1 = k then (kv.1, kv.2 ++ [i]) else kv := by
      unfold addSeat
      rw [if_pos ((any_key kvs k).mpr hin)]
    have ek : (kvs.map fun kv => if kv.1 = k then (kv.1, kv.2 ++ [i]) else kv).map (·.1) = kvs.map (·.1) := by
      rw [List.map_map]
      refine List.map_congr_left fun kv _ => ?_
      show (if kv.1 = k then (kv.1, kv.2 ++ [i]) else kv).1 = kv.1
      split <;> rfl
    rw [ea]
    refine ⟨by rw [ek]; exact p.keys, by rw [ek]; exact p.nod, fun l k' es' hl => ?_, p.inj⟩
    rw [List.getElem?_map] at hl
    cases e2 : kvs[l]? with
    | none => rw [e2] at hl; cases hl
    | some kv =>
      rw [e2] at hl
      obtain ⟨k2, es2⟩ := kv
      obtain ⟨b2, g1, g2, g3, g4⟩ := p.val l k2 es2 e2
      by_cases hkk : k2 = k
      · have hl2 : (if k2 = k then (k2, es2 ++ [i]) else (k2, es2)) = (k', es') := Option.some.inj hl
        rw [if_pos hkk] at hl2
        cases hl2
        rw [hkk] at e2 g1 ⊢
        have hjl : j = l := by
          have a1 : (kvs.map (·.1))[j]? = some k := by rw [List.getElem?_map, e]; rfl
          have a2 : (kvs.map (·.1))[l]? = some k := by rw [List.getElem?_map, e2]; rfl
          exact (List.getElem?_inj (List.getElem?_eq_some_iff.mp a1).1 p.nod).mp (a1.trans a2.symm)
        subst hjl
        rw [hj] at g1
        cases g1
        rw [e] at e2
        cases e2
        exact ⟨b, hj, g2, g3, by rw [upd_same, List.map_append]; rfl⟩
      · have hl2 : (if k2 = k then (k2, es2 ++ [i]) else (k2, es2)) = (k', es') := Option.some.inj hl
        rw [if_neg hkk] at hl2
        cases hl2
        have nb : b2 ≠ b := fun z => by
          subst z
          have := p.inj j l _ _ _ hj g1
          subst this
          rw [e] at e2
          cases e2
          exact hkk rfl
        exact ⟨b2, g1, g2, g3, by rw [upd_ne nb]; exact g4⟩
/-- a new key -/
theorem Dp.new {H0 H : Hp} {d l : Addr} {xs : List (List Key × V)} {kvs : SeatL} (p : Dp H0 H d xs kvs) {k : List Key} (hk : k ∉ xs.map (·.1)) (hl0 : H0 l = none) (hld : l ≠ d) (hl : H l = none) (i : Int) {H' : Hp} (e : ∀ b o, H b = some o → b ≠ d → H' b = some o) (h' : H' l = some (.lst [.int i])) :
    Dp H0 H' d (xs ++ [(k, .ref l)]) (addSeat kvs k i) := by
  have hk2 : k ∉ kvs.map (·.1) := by rw [← p.keys]; exact hk
  have ea : addSeat kvs k i = kvs ++ [(k, [i])] := by
    unfold addSeat
    rw [if_neg fun z => hk2 ((any_key kvs k).mp z)]
  have hlen := p.len
  have old : ∀ (j : Nat) (k' : List Key) (b : Addr), xs[j]? = some (k', .ref b) → b ≠ l := fun j k' b h z => by
    have hj : j < kvs.length := by rw [← hlen]; exact (List.getElem?_eq_some_iff.mp h).1
    obtain ⟨b', h1, _, _, h4⟩ := p.val j _ _ (List.getElem?_eq_getElem hj)
    rw [h] at h1
    cases h1
    rw [z, hl] at h4
    cases h4
  rw [ea]
  refine ⟨by rw [List.map_append, List.map_append, p.keys]; rfl, ?_, fun j k' es h => ?_, fun j j' k1 k2 b h1 h2 => ?_⟩
  · rw [List.map_append, List.nodup_append]
    exact ⟨p.nod, by simp, fun a ha b hb z => hk2 (by simp at hb; rw [← hb, ← z]; exact ha)⟩
  · by_cases hj : j < kvs.length
    · rw [List.getElem?_append_left hj] at h
      obtain ⟨b, h1, h2, h3, h4⟩ := p.val j k' es h
      exact ⟨b, by rw [List.getElem?_append_left (by omega)]; exact h1, h2, h3, e b _ h4 h3⟩
    · rw [List.getElem?_append_right (by omega)] at h
      have h0 : j - kvs.length = 0 := by
        by_cases h0 : j - kvs.length = 0
        · exact h0
        · rw [List.getElem?_eq_none (by simp; omega)] at h; cases h
      rw [h0] at h
      cases h
      exact ⟨l, by rw [List.getElem?_append_right (by omega), hlen, h0]; rfl, hl0, hld, h'⟩
  · have lem : ∀ (j : Nat) (k1 : List Key), (xs ++ [(k, V.ref l)])[j]? = some (k1, .ref b) → (j < xs.length ∧ xs[j]? = some (k1, .ref b)) ∨ (j = xs.length ∧ b = l) := fun j k1 h => by
      by_cases hj : j < xs.length
      · rw [List.getElem?_append_left hj] at h; exact .inl ⟨hj, h⟩
      · rw [List.getElem?_append_right (by omega)] at h
        by_cases h0 : j - xs.length = 0
        · rw [h0] at h; cases h; exact .inr ⟨by omega, rfl⟩
        · rw [List.getElem?_eq_none (by simp; omega)] at h; cases h
    rcases lem j k1 h1 with ⟨a1, a2⟩ | ⟨a1, a2⟩ <;> rcases lem j' k2 h2 with ⟨b1, b2⟩ | ⟨b1, b2⟩
    · exact p.inj j j' k1 k2 b a2 b2
    · exact absurd b2 (old j k1 b a2)
    · exact absurd a2 (old j' k2 b b2)
    · omega
end Zk
end

section
set_option Elab.async false
set_option linter.all false
set_option maxRecDepth 100000
set_option autoImplicit false
set_option maxHeartbeats 2000000
/-! The loop that fills such a dict. -/
namespace Zk
open PySem L2
open Evl (Ex)
variable {K : PySem.W.Frag}
abbrev tsSeats (K : PySem.W.Frag) : TS := tSeq (tAsg tDNewT (gName 1)) (tSeq (tFor (TS.iEnumA K (tCons (tVar 0) tNil)) (gTup K 2 (gCons (gName 2) (gCons (gName 3) gNil)))
  (tIfS (tTest (tOp (fun x y H Q => y = .non ∧ Q (.bl (!decide (x = .non))) H) (tVar 3) (tC .non))) (tDrop (tBM K "list" rAppend (tDSetdT (tVar 1) (tVar 3) (tLst tNil)) (tCons (tVar 2) tNil))) tNext)) (tRet (tVar 1)))
theorem seatsD_non (n : Nat) (ds : List D) (kvs : SeatL) : seatsD n (.non :: ds) kvs = seatsD (n + 1) ds kvs := by rw [seatsD]
theorem seatsD_tup (n : Nat) (es ds : List D) (kvs : SeatL) : seatsD n (.tup es :: ds) kvs = (keyD (.tup es)).bind fun k => seatsD (n + 1) ds (addSeat kvs k (n : Int)) := by rw [seatsD]; exact fun z => by cases z
theorem seats_le {kvs : SeatL} {k : List Key} {i : Nat} {z : Int} (h : ∀ kv ∈ kvs, kv.2.length ≤ i) : ∀ kv ∈ addSeat kvs k z, kv.2.length ≤ i + 1 := by
  unfold addSeat
  split
  · intro kv hk
    obtain ⟨kw, h1, rfl⟩ := List.mem_map.mp hk
    have := h kw h1
    split
    · rw [List.length_append]; simp; exact this
    · omega
  · intro kv hk
    rcases List.mem_append.mp hk with h1 | h1
    · exact Nat.le_succ_of_le (h kv h1)
    · rw [List.mem_singleton.mp h1]; simp
theorem rpa_seats {O : Addr → Prop} {H : Hp} : ∀ (kvs : SeatL) (xs : List (List Key × V)), xs.length = kvs.length → (∀ (j : Nat) (k : List Key) (es : List Int), kvs[j]? = some (k, es) → ∃ b, xs[j]? = some (k, .ref b) ∧ ¬ O b ∧ H b = some (.lst (es.map V.int))) →
    RpA K O H (xs.map (·.2)) (kvs.map ((·.2) ∘ fun kv : List Key × List Int => (kv.1, D.lst (iL kv.2))))
  | [], [], _, _ => .nil
  | [], _ :: _, e, _ => by cases e
  | _ :: _, [], e, _ => by cases e
  | (k, es) :: kvs, (k2, v) :: xs, e, h => by
    obtain ⟨b, h1, h2, h3⟩ := h 0 k es rfl
    cases h1
    exact .cons (.lst h2 h3 (RpA.ofInts es)) (rpa_seats kvs xs (Nat.succ.inj e) fun j k' es' hj => h (j + 1) k' es' hj)
theorem seats_go {H0 H : Hp} {Oc : Addr → Prop} {pins : Pn} {ow : OW} {σ : L2.St} {ds : List D} {kvs : SeatL} {De : Ends} (R : Reps K H0 Oc pins ow σ H [some (.v (.lst ds)), none, none, none]) (hl : ds.length ≤ 100000) (h : seatsD 0 ds [] = some kvs)
    (P : ∀ p H', Ex H0 H' → H0 p = none → RpO K (fun a => Oc a ∨ a = p) H' p (seatD kvs) → De.rt (.ref p) H') : tsSeats K De σ H := by
  obtain ⟨v0, hσ0, r0⟩ := R.val 0 _ rfl
  cases r0 with
  | @lst a xs0 _ na ha r0 =>
    have hσl : σ.length = 4 := R.len
    have h00 : ∀ b, H b = none → H0 b = none := fun b z => Evl.fresh_back R.ex z
    intro d hd
    have hda : a ≠ d := fun z => by rw [z, hd] at ha; cases ha
    -- what is held between turns
    let Pv : Nat → L2.St → Hp → Prop := fun i σ' H' => ∃ (xs : List (List Key × V)) (cur : SeatL), σ'.length = 4 ∧ σ'[0]? = some (some (.ref a)) ∧ σ'[1]? = some (some (.ref d)) ∧ (∀ b o, H b = some o → H' b = some o) ∧ H' d = some (.dT xs) ∧ Dp H H' d xs cur ∧ cur.length ≤ i ∧ (∀ kv ∈ cur, kv.2.length ≤ i) ∧ seatsD i (ds.drop i) cur = some kvs
    have ex1 : Ex H (upd H d (.dT [])) := Evl.Ex.new hd
    refine ⟨.ref a, by rw [List.getElem?_set_ne (by decide)]; exact hσ0, .inl ⟨a, xs0, rfl, .of (ex1 _ _ ha), ?_⟩⟩
    refine ⟨fun i m σ' H' => m = ds.length - i ∧ i ≤ ds.length ∧ Pv i σ' H', ⟨ds.length, rfl, Nat.zero_le _, [], [], by rw [List.length_set]; exact hσl, by rw [List.getElem?_set_ne (by decide)]; exact hσ0, List.getElem?_set_self (by omega), ex1, upd_same, ⟨rfl, .nil, fun j k es z => (by simp at z), fun j l k k' b z => (by simp at z)⟩, Nat.le_refl _, fun kv z => (by cases z), h⟩, ?_⟩
    rintro i m σ' H' ⟨rfl, hi, xs, cur, hσ, s0, s1, eH, hdT, dp, hcl, hcv, hs⟩
    have hxl := dp.len
    by_cases hlt : i < ds.length
    · have hx : ∃ v, xs0[i]? = some v ∧ Rp K (OO Oc ow) H v ds[i] := r0.get (List.getElem?_eq_getElem hlt)
      obtain ⟨v, hv, rv⟩ := hx
      refine .inr ⟨⟨xs0, v, .of (eH _ _ ha), hv⟩, Pv (i + 1), fun σ2 H2 p => ⟨ds.length - (i + 1), by omega, rfl, hlt, p⟩, ?_⟩
      rintro x H2 ⟨T, w, rfl, hT, rfl, hw⟩
      have ew := hw xs0 (.of (eH _ _ ha))
      rw [hv] at ew
      cases ew
      have exT : Ex H' (upd H' T (.tup [.int (i : Nat), v])) := Evl.Ex.new hT
      have hTd : d ≠ T := fun z => by rw [← z, hdT] at hT; cases hT
      refine ⟨T, _, rfl, .of upd_same, rfl, _, _, rfl, _, _, rfl, rfl, ?_⟩
      have t0 : ((σ'.set 2 (some (.int (i : Nat)))).set 3 (some v))[0]? = some (some (.ref a)) := by rw [List.getElem?_set_ne (by decide), List.getElem?_set_ne (by decide)]; exact s0
      have t1 : ((σ'.set 2 (some (.int (i : Nat)))).set 3 (some v))[1]? = some (some (.ref d)) := by rw [List.getElem?_set_ne (by decide), List.getElem?_set_ne (by decide)]; exact s1
      have t2 : ((σ'.set 2 (some (.int (i : Nat)))).set 3 (some v))[2]? = some (some (.int (i : Nat))) := by rw [List.getElem?_set_ne (by decide), List.getElem?_set_self (by omega)]
      have t3 : ((σ'.set 2 (some (.int (i : Nat)))).set 3 (some v))[3]? = some (some v) := List.getElem?_set_self (by rw [List.length_set]; omega)
      have tl : ((σ'.set 2 (some (.int (i : Nat)))).set 3 (some v)).length = 4 := by rw [List.length_set, List.length_set]; exact hσ
      generalize ((σ'.set 2 (some (.int (i : Nat)))).set 3 (some v)) = τ at t0 t1 t2 t3 tl ⊢
      have hdrop : ds.drop i = ds[i] :: ds.drop (i + 1) := List.drop_eq_getElem_cons hlt
      rw [hdrop] at hs
      have eT : ∀ b o, H b = some o → upd H' T (.tup [.int (i : Nat), v]) b = some o := fun b o z => exT _ _ (eH _ _ z)
      refine ⟨v, t3, rfl, _, rfl, ?_⟩
      generalize ds[i] = dv at rv hs
      cases rv <;> first | (exfalso; revert hs; simp [seatsD, keyD]; done) | skip
      · -- None
        rw [seatsD_non] at hs
        rw [decide_eq_true (rfl : (V.non = V.non))]
        refine ⟨xs, cur, tl, t0, t1, eT, exT _ _ hdT, dp.ex fun b o z _ => exT _ _ z, by omega, fun kv z => Nat.le_succ_of_le (hcv kv z), hs⟩
      · -- a pair
        rename_i b ys es nb hb ry
        rw [seatsD_tup] at hs
        cases ek : keyD (.tup es) with
        | none => rw [ek] at hs; cases hs
        | some ks =>
          rw [ek, Option.bind_some] at hs
          have hb2 : H b = some (.tup (ks.map kV)) := by rw [hb, keyEs_rp ry ek]
          rw [decide_eq_false (show ¬ (V.ref b = V.non) from fun z => by cases z)]
          have hdT2 : upd H' T (.tup [.int (i : Nat), .ref b]) d = some (.dT xs) := exT _ _ hdT
          have dp2 : Dp H (upd H' T (.tup [.int (i : Nat), .ref b])) d xs cur := dp.ex fun b o z _ => exT _ _ z
          have e0 : ∀ q, upd H' T (.tup [.int (i : Nat), .ref b]) q = none → H q = none := fun q z => by
            cases y : H q with
            | none => rfl
            | some o => rw [eT _ _ y] at z; cases z
          generalize upd H' T (.tup [.int (i : Nat), .ref b]) = H2 at eT hdT2 dp2 e0 ⊢
          refine ⟨.ref d, t1, d, rfl, .inr ⟨xs, .inl hdT2⟩, .ref b, t3, by decide, fun l hl2 => ?_⟩
          have hld : l ≠ d := fun z => by rw [z, hdT2] at hl2; cases hl2
          have ex3 : Ex H2 (upd H2 l (.lst [])) := Evl.Ex.new hl2
          refine ⟨xs, ks, b, ex3 _ _ hdT2, rfl, ex3 _ _ (eT _ _ hb2), Evl.sz_lt (by rw [hxl]; omega), fun w hw => ?_, fun hn => ?_⟩
          · -- the key is there
            obtain ⟨j, hj⟩ := valV_at hw
            have hjl : j < cur.length := by rw [← hxl]; exact (List.getElem?_eq_some_iff.mp hj).1
            obtain ⟨b1, h1, _, _, _⟩ := dp2.val j _ _ (List.getElem?_eq_getElem hjl)
            rw [hj] at h1
            have ew : w = .ref b1 := (Prod.mk.inj (Option.some.inj h1)).2
            subst ew
            have dp3 : Dp H (upd H2 l (.lst [])) d xs cur := dp2.ex fun b o z _ => ex3 _ _ z
            obtain ⟨es2, g1, g2, g3⟩ := dp3.more hj (i : Int)
            obtain ⟨b2, k1, k2, k3, k4⟩ := dp3.val j _ _ g1
            rw [hj] at k1
            cases k1
            have hb1 : ∀ q o, H q = some o → upd (upd H2 l (.lst [])) b1 (.lst (es2.map V.int ++ [.int (i : Int)])) q = some o := fun q o z => by
              have nq : q ≠ b1 := fun y => by rw [y, k2] at z; cases z
              rw [upd_ne nq]
              exact ex3 _ _ (eT _ _ z)
            refine ⟨.inl ⟨rfl, _, .of g2⟩, .int (i : Nat), t2, b1, _, _, rfl, rfl, g2, Evl.sz_lt ?_, xs, addSeat cur ks (i : Int), tl, t0, t1, hb1, by rw [upd_ne (Ne.symm k3)]; exact ex3 _ _ hdT2, g3, ?_, seats_le hcv, hs⟩
            · rw [List.length_map]
              have : es2.length ≤ i := hcv _ (List.mem_of_getElem? g1)
              omega
            · have : (addSeat cur ks (i : Int)).length = cur.length := by
                unfold addSeat
                split
                · rw [List.length_map]
                · rename_i z
                  exact absurd ((any_key cur ks).mpr (List.mem_map.mpr ⟨_, List.mem_of_getElem? g1, rfl⟩)) z
              omega
          · -- a new key
            have hno := valV_no hn
            have ep : putK xs ks (.ref l) = xs ++ [(ks, .ref l)] := by
              unfold putK
              have := valV_any ks xs
              rw [hn] at this
              rw [this]
              rfl
            rw [ep]
            have e4 : ∀ q o, H2 q = some o → q ≠ d → upd (upd H2 l (.lst [])) d (.dT (xs ++ [(ks, .ref l)])) q = some o := fun q o z nq => by rw [upd_ne nq]; exact ex3 _ _ z
            have hl4 : upd (upd H2 l (.lst [])) d (.dT (xs ++ [(ks, .ref l)])) l = some (.lst []) := by rw [upd_ne hld, upd_same]
            refine ⟨.inl ⟨rfl, _, .of hl4⟩, .int (i : Nat), t2, l, _, _, rfl, rfl, hl4, Evl.sz_lt (by simp), xs ++ [(ks, .ref l)], addSeat cur ks (i : Int), tl, t0, t1, fun q o z => ?_, by rw [upd_ne (Ne.symm hld), upd_same], ?_, ?_, seats_le hcv, hs⟩
            · have nq : q ≠ d := fun y => by rw [y, hd] at z; cases z
              have nl : q ≠ l := fun y => by rw [y, e0 l hl2] at z; cases z
              rw [upd_ne nl]
              exact e4 q o (eT _ _ z) nq
            · refine dp2.new hno (e0 l hl2) hld hl2 (i : Int) (fun q o z nq => ?_) (by rw [upd_same]; rfl)
              have nl : q ≠ l := fun y => by rw [y, hl2] at z; cases z
              rw [upd_ne nl]
              exact e4 q o z nq
            · have hk2 : ks ∉ cur.map (·.1) := by rw [← dp2.keys]; exact hno
              have : addSeat cur ks (i : Int) = cur ++ [(ks, [(i : Int)])] := by
                unfold addSeat
                rw [if_neg fun z => hk2 ((any_key cur ks).mp z)]
              rw [this, List.length_append]
              simp
              omega
    · have e : i = ds.length := by omega
      subst e
      refine .inl ⟨⟨xs0, .of (eH _ _ ha), by rw [r0.len]; exact Nat.le_refl _⟩, ?_⟩
      rw [List.drop_length] at hs
      have : cur = kvs := by unfold seatsD at hs; exact Option.some.inj hs
      subst this
      refine ⟨.ref d, s1, P d H' (fun b o z => eH _ _ (R.ex _ _ z)) (h00 d hd) ⟨xs, hdT, ?_, ?_⟩⟩
      · rw [List.map_map]; exact dp.keys
      · rw [List.map_map]
        exact rpa_seats cur xs dp.len fun j k es hj => by
          obtain ⟨b, h1, h2, h3, h4⟩ := dp.val j k es hj
          refine ⟨b, h1, ?_, h4⟩
          rintro (z | z)
          · exact (R.oc b z).1 (h00 b h2)
          · exact h3 z
theorem sr_seats : SR K (tsSeats K) tSeats := fun g out h H0 Oc pins ow σ H R De P => by
  unfold tSeats at h
  split at h
  · rename_i ds
    split at h
    · rename_i hl
      cases e : seatsD 0 ds [] with
      | none => rw [e] at h; cases h
      | some kvs =>
        rw [e] at h
        cases h
        exact seats_go R hl e P
    · cases h
  · cases h
end Zk
end

section
set_option Elab.async false
set_option linter.all false
set_option maxRecDepth 100000
set_option autoImplicit false
set_option maxHeartbeats 2000000
/-! A call whose answer is either a new thing or a value, kept as it is. -/
namespace Zk
open PySem L2
open Evl (Ex)
variable {K : PySem.W.Frag}
theorem eo_revL {te : TE} {a : DF} (ha : ER K te a) : EO K (tRevL K te) (d1 revD a) := fun g d h H0 Oc pins ow σ H R Q q => by
  unfold d1 at h
  cases ea : a g with
  | none => rw [ea] at h; cases h
  | some x =>
    rw [ea, Option.bind_some] at h
    refine ha g x ea H0 Oc pins ow σ H R _ fun v H1 e1 r1 => ?_
    unfold revD at h
    split at h
    · cases h
      cases r1 with
      | @lst b xs ds n e r =>
        refine ⟨_, _, rfl, .of e, fun l hl => ?_⟩
        have e2 := Evl.Ex.new (o := .lst xs.reverse) hl
        refine q _ _ (e1.trans e2) (Evl.fresh_back e1 hl) ⟨xs.reverse, upd_same, r.reverse.kp fun b o n e => ⟨fun z => ?_, e2 b o e⟩⟩
        rcases z with z | z
        · exact n z
        · rw [z, hl] at e; cases e
    · cases h
def WE (K : PySem.W.Frag) (te : TE) (a : Gm → Option Wd) : Prop := ∀ g w, a g = some w → ∀ H0 Oc pins ow σ H, Reps K H0 Oc pins ow σ H g → ∀ Q : VK,
  (∀ d, w = .v d → ∀ v H', Ex H H' → Rp K (OO Oc ow) H' v d → Q v H') → (∀ d, w = .o d → ∀ p H', Ex H H' → H p = none → RpO K (fun a => OO Oc ow a ∨ a = p) H' p d → Q (.ref p) H') → te σ H Q
def dCallW (n : Nat) (gf : PF) (a : DAF) : Gm → Option Wd := fun g => (a g).bind fun ds => if ds.length = n then gf ds else none
def dCallDW (n : Nat) (dd : List D) (gf : PF) (a : DAF) : Gm → Option Wd := fun g => (a g).bind fun ds => if (ds ++ dd).length = n then gf (ds ++ dd) else none
def dCallKW (n m : Nat) (gf : PF) (a b : DAF) : Gm → Option Wd := fun g => (a g).bind fun ds => (b g).bind fun es => if ds.length = n ∧ es.length = m then gf (ds ++ es) else none
theorem we_callD {n : Nat} {gf : PF} {E : XK} {ta : TA} {a : DAF} {dv : List V} {dd : List D} (hv : ∀ O H, RpA K O H dv dd) (ha : AR K ta a) : WE K (tCall (spG K n gf) dv E ta) (dCallDW n dd gf a) := fun g w h H0 Oc pins ow σ H R Q q qo => by
  unfold dCallDW at h
  cases ea : a g with
  | none => rw [ea] at h; cases h
  | some ds =>
    rw [ea, Option.bind_some] at h
    split at h
    · rename_i hn
      refine ha g ds ea H0 Oc pins ow σ H R _ fun vs H1 e1 r1 => ?_
      have rr := r1.app (hv (OO Oc ow) H1)
      refine ⟨OO Oc ow, _, w, by rw [rr.len]; exact hn, (R.grow e1).oo, rr, h, ?_⟩
      cases w with
      | v d => exact fun v H2 e2 r2 => q d rfl v H2 (e1.trans e2) r2
      | o d => exact fun p H2 e2 hp r2 => qo d rfl p H2 (e1.trans e2) (Evl.fresh_back e1 hp) r2
    · cases h
theorem we_call {n : Nat} {gf : PF} {E : XK} {ta : TA} {a : DAF} (ha : AR K ta a) : WE K (tCall (spG K n gf) [] E ta) (dCallW n gf a) := fun g w h H0 Oc pins ow σ H R Q q qo => by
  unfold dCallW at h
  cases ea : a g with
  | none => rw [ea] at h; cases h
  | some ds =>
    rw [ea, Option.bind_some] at h
    split at h
    · rename_i hn
      refine ha g ds ea H0 Oc pins ow σ H R _ fun vs H1 e1 r1 => ?_
      refine ⟨OO Oc ow, ds, w, by rw [List.append_nil, r1.len]; exact hn, (R.grow e1).oo, by rw [List.append_nil]; exact r1, h, ?_⟩
      cases w with
      | v d => exact fun v H2 e2 r2 => q d rfl v H2 (e1.trans e2) r2
      | o d => exact fun p H2 e2 hp r2 => qo d rfl p H2 (e1.trans e2) (Evl.fresh_back e1 hp) r2
    · cases h
theorem we_callK {n m k : Nat} {gf : PF} {E : XK} {ta tb : TA} {a b : DAF} (hk : n + m = k) (ha : AR K ta a) (hb : AR K tb b) : WE K (tCallK (spG K k gf) (gApp n m) E ta tb) (dCallKW n m gf a b) := fun g w h H0 Oc pins ow σ H R Q q qo => by
  unfold dCallKW at h
  cases ea : a g with
  | none => rw [ea] at h; cases h
  | some ds =>
    rw [ea, Option.bind_some] at h
    cases eb : b g with
    | none => rw [eb] at h; cases h
    | some es =>
      rw [eb, Option.bind_some] at h
      split at h
      · rename_i hn
        refine ha g ds ea H0 Oc pins ow σ H R _ fun vs H1 e1 r1 => ?_
        refine hb g es eb H0 Oc pins ow σ H1 (R.grow e1) _ fun zs H2 e2 r2 => ?_
        have rr := (r1.ex e2).app r2
        have hg : gApp n m vs zs = vs ++ zs := if_pos ⟨by rw [r1.len]; exact hn.1, by rw [r2.len]; exact hn.2⟩
        refine ⟨OO Oc ow, _, w, by rw [hg, rr.len, List.length_append, hn.1, hn.2]; exact hk, ((R.grow e1).grow e2).oo, by rw [hg]; exact rr, h, ?_⟩
        cases w with
        | v d => exact fun v H3 e3 r3 => q d rfl v H3 ((e1.trans e2).trans e3) r3
        | o d => exact fun p H3 e3 hp r3 => qo d rfl p H3 ((e1.trans e2).trans e3) (Evl.fresh_back (e1.trans e2) hp) r3
      · cases h
def sAsgW (a : Gm → Option Wd) (i : Nat) : SF := fun g => (a g).bind fun w => if okSlot g i = true then some (.nx (g.set i (some w))) else none
theorem sr_asgW {te : TE} {a : Gm → Option Wd} {i : Nat} (ha : WE K te a) : SR K (tAsg te (gName i)) (sAsgW a i) := fun g out h H0 Oc pins ow σ H R De P => by
  unfold sAsgW at h
  cases ea : a g with
  | none => rw [ea] at h; cases h
  | some w =>
    rw [ea, Option.bind_some] at h
    split at h
    · rename_i hi
      cases h
      refine ha g w ea H0 Oc pins ow σ H R _ (fun d e v H1 e1 r1 => ?_) fun d e p H1 e1 hp r1 => ?_
      · subst e; exact P _ _ H1 ((R.grow e1).setV hi r1)
      · subst e; exact P _ _ H1 (R.setO hi hp e1 r1)
    · cases h
end Zk
namespace Zk
open PySem L2
open Evl (Ex)
variable {K : PySem.W.Frag}
/-- list(x), x a list of one's own -/
def dCopyO (i : Nat) : DF := fun g => match g[i]? with
  | some (some (.o (.lst ds))) => some (.lst ds)
  | _ => none
theorem er_copyO (i : Nat) : ER K (tCB (rListOf K) (tCons (tVar i) tNil)) (dCopyO i) := fun g d h H0 Oc pins ow σ H R Q q => by
  unfold dCopyO at h
  split at h
  · rename_i ds hd
    cases h
    obtain ⟨p, h1, h2, xs, h3, h4⟩ := R.own i _ hd
    exact ⟨.ref p, h2, p, xs, rfl, .inl (.of h3), rr_newL R.oo q h4⟩
  · cases h
end Zk
end

section
set_option Elab.async false
set_option linter.all false
set_option maxRecDepth 100000
set_option autoImplicit false
set_option maxHeartbeats 4000000
/-! Defs that are called where no guard stands; repr of data. -/
namespace Zg
open PySem PySem.Spec L2 Zk PyProof.Rows
open Evl (Ex)
/-- as FnOk, where no guard stands -/
structure FnG (P : Program) (w : World) (K : PySem.W.Frag) (mg : Str → Option Value) (base : Heap) (k : Nat) (f : Addr) (fd : FuncData) (ps : List Str) (sp : Sp) : Prop where
  len : ∀ vs H Q E, sp vs H Q E → vs.length = ps.length
  run : ∀ (A : Around), A.guards = some [] → ∀ (outer : List Env) (s : Shared) (H : Hp) (args : Args) (us : List Value) (vs : List V) (Q : VK) (E : XK), Room k A → Env0 P w K mg base A outer s H → BindsTo s fd args (ps.zip us) → Vals vs us → sp vs H Q E →
    codeAny (model P w) A (.call (.ref f) args) (CR CX0 outer P w H s Q E) s
section
variable {P : Program} {w : World} {K : PySem.W.Frag} {mg : Str → Option Value} {base : Heap}
theorem FnG.imp {k : Nat} {f : Addr} {fd : FuncData} {ps : List Str} {sp sp' : Sp} (F : FnG P w K mg base k f fd ps sp) (h : ∀ vs H Q E, sp' vs H Q E → sp vs H Q E) : FnG P w K mg base k f fd ps sp' :=
  ⟨fun vs H Q E q => F.len vs H Q E (h _ _ _ _ q), fun A hg outer s H args us vs Q E hr he hb hv hs => F.run A hg outer s H args us vs Q E hr he hb hv (h _ _ _ _ hs)⟩
theorem FnG.mono {j k : Nat} {f : Addr} {fd : FuncData} {ps : List Str} {sp : Sp} (F : FnG P w K mg base j f fd ps sp) (h : j ≤ k) : FnG P w K mg base k f fd ps sp :=
  ⟨F.len, fun A hg outer s H args us vs Q E hr => F.run A hg outer s H args us vs Q E (hr.mono h)⟩
theorem fn_body {x qual : Str} {st : Stmt} {f : Addr} {fd : FuncData} {N ps : List Str} {k : Nat} {sp : Sp} (F : Fun K x qual st f fd) (S : FnScope N ps (defScope st)) (len : ∀ vs H Q E, sp vs H Q E → vs.length = ps.length)
    (hbody : ∀ (cdv : Value) (A : Around), A.guards = some [] → ∀ (outer : List Env) (s : Shared) (H : Hp) (vs : List V) (Q : VK) (E : XK), Room k (A.deeper (envOfC qual (defScope st) s.heap.objs.size f cdv)) → sp vs H Q E →
      ∃ t, PSs (cxOf CX0 P w K mg base N qual (defScope st) f cdv A outer s H E).nox (defBody st) t ∧ t { nx := fun _ H' => Q .non H', rt := Q } (start N vs) H) : FnG P w K mg base (k + 1) f fd ps sp := by
  obtain ⟨oc, od, kV, doc, pm, an, cdv, ct, osl, rfl, lk, hcd⟩ := F.ex
  refine ⟨len, fun A hg outer s H args us vs Q E hr e0 hb r hsp => ?_⟩
  have hin : K.In s.heap := e0.mod.kin.keeps fun b o e => (e0.bs b o e).1
  have par : ∀ y ∈ ps.zip us, (defScope st).names.lookup y.1 = some .local ∨ ((defScope st).names.lookup y.1 = some .cell ∧ ((cellsFrom (s.heap.objs.size + 1) (defScope st).names []).lookup y.1).isSome = true) := fun y hy =>
    (S.par y.1 (List.of_mem_zip (show (y.1, y.2) ∈ ps.zip us from hy)).1).imp id fun q => ⟨q, PySem.W.cellsFrom_some _ _ _ (.inl q)⟩
  refine codeAny_call_function hr.depth (hin _ _ lk) rfl S.co S.gen rfl (PySem.W.codeRec_of hin hcd) (hb _ _ _ _ (wpAny_newFunctionEnv_cells S.kind par fun env he s1 x => ?_))
  subst he
  obtain ⟨t, ht, hq⟩ := hbody cdv A hg outer s H vs Q E (hr.deeper _) hsp
  have lim := e0.mod.nolimit.keeps fun b o e => (e0.bs b o e).1
  refine ⟨lim.keeps x.toInCall.keep, codeAny_func (wpAny_mono (ht.nox.run [] s1 (start N vs) H _ (inv_start S hr.hd e0 (len _ _ _ _ hsp) r x) hq) (fun fl s' z => ?_) fun e s' z => z)⟩
  cases fl with
  | ret u =>
    obtain ⟨v, σ', H', J, rv, q⟩ := z
    exact ⟨v, H', J.os, J.bare, J.base, J.hok, rv, q⟩
  | next =>
    obtain ⟨σ', H', J, q⟩ := z
    exact ⟨V.non, H', J.os, J.bare, J.base, J.hok, rfl, q⟩
  | brk =>
    obtain ⟨_, _, _, q⟩ := z
    exact False.elim q
  | cont =>
    obtain ⟨_, _, _, q⟩ := z
    exact False.elim q
/-- a def by its reading on data -/
theorem fnGG {x qual : Str} {st : Stmt} {f : Addr} {fd : FuncData} {N ps : List Str} {k n m : Nat} {t : SF} (F : Fun K x qual st f fd) (S : FnScope N ps (defScope st)) (hn : n = ps.length) (hm : N.length = n + m)
    (hb : ∀ (cdv : Value) (A : Around), A.guards = some [] → ∀ (outer : List Env) (s : Shared) (H : Hp) (E : XK), Room k (A.deeper (envOfC qual (defScope st) s.heap.objs.size f cdv)) → ∃ ts, PSs (cxOf CX0 P w K mg base N qual (defScope st) f cdv A outer s H E).nox (defBody st) ts ∧ SR K ts t) :
    FnG P w K mg base (k + 1) f fd ps (spG K n (runG m t)) := by
  subst hn
  refine fn_body F S (fun vs H Q E h => ?_) (fun cdv A hg outer s H vs Q E hr h => ?_)
  · obtain ⟨_, _, _, h, _⟩ := h
    exact h
  · obtain ⟨Oc, ds, wd, hl, oc, r, hgf, q⟩ := h
    obtain ⟨ts, hts, hs⟩ := hb cdv A hg outer s H E hr
    refine ⟨ts, hts, ?_⟩
    have R := reps_start oc N r (m := m) (by rw [hl]; exact hm)
    unfold runG at hgf
    split at hgf
    · rename_i w' e
      cases hgf
      refine hs _ _ e H Oc _ noOw _ H R _ ?_
      cases wd with
      | v d => exact q
      | o d => exact q
    · rename_i g e
      cases hgf
      exact hs _ _ e H Oc _ noOw _ H R _ fun ow σ H' R' => q .non H' R'.ex .non
    · cases hgf
end
/-! ### calls -/
section
variable {X : Cx} {k : Nat} {f : Addr} {fd : FuncData} {ps : List Str} {sp : Sp} {x : Str} {p pos : Pos} {e : Expr} {es : List Expr} {t : TA}
theorem pe_callG (hgd : X.A.guards = some []) (F : FnG X.prog X.w X.K X.mg X.base k f fd ps sp) (hr : Room k X.A) (hg : Gl X x) (hm : X.mg x = some (.ref f)) (hk : PySem.W.keepIn X.K (.ref f) = true) (hb : Binds X.K fd ps [])
    (ha : PA X (e :: es) t) (hdb : (x == ("__debug__" : Str)) = false := by decide) (he : starEach (e :: es) X.env = (false, eval e X.env) :: starEach es X.env := by rfl) (hpl : (backTo pos (starEach es X.env)).any (·.1) = false := by rfl) :
    PE X (.Call (.Name x p) (e :: es) [] pos) (tCall sp [] E0 t) := by
  refine ⟨fun pins s σ H Q I h => ?_⟩
  refine wpAny_Call_Name_kw (ld_glob I hg hm ?_ hdb)
  refine PySem.W.callWith_K (h₀ := X.base) I.ok.mod.kin hk (thn (ha.run pos pins s σ H _ I h) fun us s1 ⟨vs, H1, I1, r, q⟩ => ⟨I1.kIn, ?_⟩) he hpl
  have q0 : sp (vs ++ []) H1 Q E0 := q
  have q' : sp vs H1 Q E0 := by rw [List.append_nil] at q0; exact q0
  have hl : us.length = ps.length := by rw [← r.length]; exact F.len _ _ _ _ q'
  have b1 := hb s1 us I1.kIn (by rw [List.append_nil]; exact hl)
  rw [List.append_nil] at b1
  refine wpAny_call (codeAny_mono (F.run X.A hgd X.stack s1 H1 ⟨us, []⟩ us vs Q E0 hr I1.env0 b1 r q') fun rs s' hq => ?_)
  cases rs with
  | error e => exact hq.elim
  | ok fl =>
    cases fl with
    | ret u => exact I1.after hq
    | next => exact False.elim hq
    | brk => exact False.elim hq
    | cont => exact False.elim hq
/-! ### the law's own call -/
section
variable {P : Program} {w : World} {K : PySem.W.Frag} {mg mb : Str → Option Value} {k : Nat} {fa a : Addr} {fd : FuncData} {x : Str} {sp : Sp} {s₁ : Shared} {vs : List Value} {ns : List Int}
/-- the heap as it stands when the law is called: nothing but the script may be tracked -/
theorem start_heap (KX : K.In s₁.heap) (ha : s₁.heap.get? a = some { cls := .type "list", data := .seq vs.toArray }) (hi : IntsAre vs ns) (hl : ns.length ≤ sizeLine) :
    ∃ H : Hp, Only H ∧ SqL K H a (ns.map V.int) ∧ HOk P w H s₁.heap ∧ (∀ b, H b ≠ none → b = a) ∧ (H a ≠ none → K.lookup a = none) := by
  have rv := vals_ints hi
  cases hk : K.lookup a with
  | some o =>
    have e := (KX a o hk).symm.trans ha
    cases e
    exact ⟨fun _ => none, fun _ => .inl rfl, .inr ⟨_, vs.toArray, _, hk, rfl, rfl, rfl, by rw [List.size_toArray, hi.length]; exact hl, rv⟩, fun b u z => (by cases z), fun b z => absurd rfl z, fun z => absurd rfl z⟩
  | none =>
    refine ⟨fun b => if b = a then some (.frz { cls := .type "list", data := .seq vs.toArray } (.lst (ns.map V.int))) else none, fun b => ?_, .inl (.inr ⟨_, if_pos rfl⟩), fun b u z => ?_, fun b z => ?_, fun _ => rfl⟩
    · by_cases hb : b = a
      · exact .inr ⟨_, _, if_pos hb⟩
      · exact .inl (if_neg hb)
    · by_cases hb : b = a
      · subst hb
        have z2 := (if_pos rfl).symm.trans z
        cases z2
        exact ⟨ha, by rw [List.length_map]; exact hl, vs, _, rv, ha⟩
      · have z2 := (if_neg hb).symm.trans z
        cases z2
    · exact Decidable.byContradiction fun hb => z (if_neg hb)
theorem law_callG (KX : K.In s₁.heap) (hns : s₁.heap.Ns mainGlobals mg) (hb : s₁.heap.Ns builtinsNs mb) (hbb : ∀ x : Str, x ≠ "__name__" → mb x = bootBuiltins x) (hlim : s₁.heap.NoLimit) (hg : s₁.gens = #[])
    (ha : s₁.heap.get? a = some { cls := .type "list", data := .seq vs.toArray }) (hi : IntsAre vs ns) (hl : ns.length ≤ sizeLine) (hr : Room k callerA)
    (F : ∀ base : Heap, K.In base → base.Ns mainGlobals mg → FnG P w K mg base k fa fd [x] sp) (hbind : ∀ (s : Shared) (u : Value), BindsTo s fd ⟨[u], []⟩ [(x, u)])
    (hsp : ∀ H : Hp, Only H → SqL K H a (ns.map V.int) → sp [.ref a] H (fun v _ => v = .bl true) fun _ _ _ => False) :
    codeAny (model P w) callerA (.call (.ref fa) ⟨[.ref a], []⟩) (fun r s' => r = .ok (.ret (.bool true)) ∧ OldK s₁.heap s'.heap ∧ s'.os = s₁.os ∧ AllBare s'.gens) s₁ := by
  obtain ⟨H, hO, hS, hok, hA, hK⟩ := start_heap (P := P) (w := w) KX ha hi hl
  have only : ∀ {b : Addr} {u : HO}, H b = some u → b = a := fun q => hA _ (by rw [q]; exact fun z => by cases z)
  have off : ∀ {b : Addr} {o : Obj} {es : Array DictEntry} {ep : Nat}, s₁.heap.get? b = some o → o.data = .dict es ep → H b = none := fun {b o es ep} e d => by
    cases q : H b with
    | none => rfl
    | some u =>
      rw [only q, ha] at e
      cases e
      cases d
  have space : ∀ {b : Addr} {m : Str → Option Value}, s₁.heap.Ns b m → (hidT s₁.heap H).Ns b m := fun {b m} n => by
    obtain ⟨o, es, ep, e, d, r⟩ := n
    exact ⟨o, es, ep, hidT_get e (off e d), d, r⟩
  have inn : K.In (hidT s₁.heap H) := fun b o e => hidT_get (KX b o e) (by
    cases q : H b with
    | none => rfl
    | some u =>
      have z := hK (by rw [← only q, q]; exact fun z => by cases z)
      rw [only q, z] at e
      cases e)
  obtain ⟨mc, l1, l2⟩ := hlim
  have e0 : Env0 P w K mg (hidT s₁.heap H) callerA [] s₁ H := ⟨rfl, ⟨inn, space hns, ⟨mb, space hb, hbb⟩, ⟨mc, space l1, l2⟩⟩, fun b o e => of_hidT e, Nat.le_of_eq (hidT_size _ _), trivial, fun b hb => (by cases hb), hok, .of_eq hg⟩
  refine codeAny_mono ((F _ inn (space hns)).run callerA rfl [] s₁ H ⟨[.ref a], []⟩ [.ref a] [.ref a] _ _ hr e0 (hbind s₁ (.ref a)) (.cons rfl .nil) (hsp H hO hS)) fun r s' h => ?_
  cases r with
  | error e => exact h.elim
  | ok fl =>
    cases fl with
    | next => exact False.elim h
    | brk => exact False.elim h
    | cont => exact False.elim h
    | ret u =>
      obtain ⟨v, H', os, bare, un, hok', r', rfl⟩ := h
      cases r'
      refine ⟨rfl, OldK.of_keep fun b o e => ?_, os, bare⟩
      cases q : H b with
      | none => exact un.keep b o e q (fun z => by cases z) (fun z => by cases z)
      | some u =>
        rcases hO b with z | ⟨ob, xs, z⟩
        · rw [q] at z; cases z
        · have e1 := (hok b _ z).1
          have e2 := (hok' b _ (un.frzs b ob _ z)).1
          rw [e] at e1
          cases e1
          exact e2
end
theorem walk_ofG {l : PySem.W.OpenLaw} {n k : Nat} {q : Program} {loose : List Str} {XP : (Str → Option Value) → Heap → Prop} {YP : World → Heap → Prop} {d : DefRec} {K : Params → PySem.W.Frag} {sp : World → Sp} {x : Str}
    (hn : l.most = some n) (hn2 : n ≤ sizeLine) (hdf : d.params.defaults = []) (hr : Room k callerA)
    (hY : ∀ (w : World) (h : Heap), YP w h → (K w.params).In h)
    (F : ∀ (w : World) (mg : Str → Option Value) (fa : Addr) (h : Heap), (K w.params).In h → h.Ns mainGlobals mg → mg d.name = some (.ref fa) →
      ∃ fd : FuncData, (∀ (s : Shared) (u : Value), BindsTo s fd ⟨[u], []⟩ [(x, u)]) ∧ ∀ base : Heap, (K w.params).In base → base.Ns mainGlobals mg → FnG l.prog w (K w.params) mg base k fa fd [x] (sp w))
    (hsp : ∀ (w : World) (H : Hp) (a : Addr) (ns : List Int), ns.length ≤ n → Only H → SqL (K w.params) H a (ns.map V.int) → sp w [.ref a] H (fun v _ => v = .bl true) fun _ _ _ => False) :
    PySem.W.WalkO q loose XP YP l.row.toRowW d [] (fun f vs => PySem.call f vs) := by
  refine Att.attach_call hn hdf fun w s₀ s₁ mg mb fa o pm cd doc a vs ns G Y ho hd hcd hmg hobj hints hlen hg => ?_
  obtain ⟨fd, hb, hF⟩ := F w mg fa _ (hY w _ Y) G.T.g hmg
  exact law_callG (hY w _ Y) G.T.g G.T.b G.T.builtins G.T.nolimit hg hobj hints (Nat.le_trans hlen hn2) hr hF hb fun H hO hS => hsp w H a ns hlen hO hS
/-! ### repr -/
def rRepr (K : PySem.W.Frag) : List V → Hp → VK → Prop := fun xs H Q => ∃ (a : Addr) (d : PyData), xs = [.ref a] ∧ Dp K H (.ref a) d ∧ d.showable = true ∧ d.hasDict = false ∧ d.depth ≤ 40 ∧ d.shown.length ≤ sizeLine ∧ Q (.str d.shown) H
theorem call_repr (hgd : X.A.guards = some []) (hu : X.A.units + 64 < cLine) : CallR X (.builtin "repr") (rRepr X.K) := by
  intro pins s σ H xs us Q I r h
  obtain ⟨a, d, rfl, hd, h1, h2, h3, h4, q⟩ := h
  rw [Vals.ref1 r]
  obtain ⟨as, rd⟩ := Dp.reads I d (.ref a) (.ref a) hd rfl
  exact repr_of_reads' rd h1 (fun z => by rw [h2] at z; cases z) hgd (by omega) (fun b o e => e) (fun h' u tk hk => ⟨.str d.shown, H, I.kept hk, ⟨_, rfl⟩, q⟩) h4
end
/-- repr as data -/
def reprD : List D → Option D
  | [.lst ds] => (toP (.lst ds)).bind fun p => if p.showable = true ∧ p.hasDict = false ∧ p.depth ≤ 40 ∧ p.shown.length ≤ sizeLine then some (.str p.shown) else none
  | _ => none
theorem rc_repr {K : PySem.W.Frag} : RC K (rRepr K) reprD := fun xs d h O H vs o r Q q => by
  unfold reprD at h
  split at h
  · rename_i ds
    cases e : toP (.lst ds) with
    | none => rw [e] at h; cases h
    | some p =>
      rw [e, Option.bind_some] at h
      split at h
      · rename_i hc
        cases h
        cases r with
        | cons r rr =>
          cases rr
          have hd := dp_of r e
          cases r with
          | lst n e' r' => exact ⟨_, p, rfl, hd, hc.1, hc.2.1, hc.2.2.1, hc.2.2.2, rr_fin q (.str _)⟩
      · cases h
  · cases h
/-! ### tuples may be read off what is owned -/
mutual
def shD : D → Bool
  | .non => true | .bl _ => true | .int _ => true | .str _ => true | .ty _ => true | .cls _ => true
  | .tup ds => shDs ds
  | _ => false
def shDs : List D → Bool
  | [] => true
  | d :: ds => shD d && shDs ds
end
section
variable {K : PySem.W.Frag} {O O' : Addr → Prop} {H : Hp}
mutual
theorem rp_sh (o : ∀ a, O' a → Lv H a) : ∀ {d : D} {v : V}, Rp K O H v d → shD d = true → Rp K O' H v d
  | .non, _, .non, _ => .non
  | .bl _, _, .bl b, _ => .bl b
  | .int _, _, .int i, _ => .int i
  | .str _, _, .str s, _ => .str s
  | .ty _, _, .ty n, _ => .ty n
  | .cls _, _, .cls C, _ => .cls C
  | .tup ds, _, .tup n h r, f => .tup (fun z => (o _ z).2 _ h) h (rps_sh o r f)
  | .lst _, _, _, f => by cases f
  | .scr _, _, _, f => by cases f
  | .ins _ _, _, _, f => by cases f
  | .dct _, _, _, f => by cases f
theorem rps_sh (o : ∀ a, O' a → Lv H a) : ∀ {ds : List D} {vs : List V}, RpA K O H vs ds → shDs ds = true → RpA K O' H vs ds
  | [], _, .nil, _ => .nil
  | d :: ds, _, .cons r t, f => by
    unfold shDs at f
    rw [Bool.and_eq_true] at f
    exact .cons (rp_sh o r f.1) (rps_sh o t f.2)
end
end
def peekS (a : DF) : DF := fun g => match a (frzAll g) with
  | some d => if shD d = true then some d else none
  | none => none
theorem er_peekS {K : PySem.W.Frag} {te : TE} {a : DF} (ha : ER K te a) : ER K te (peekS a) := fun g d h H0 Oc pins ow σ H R Q q => by
  unfold peekS at h
  split at h
  · rename_i d' e
    split at h
    · rename_i f
      cases h
      exact ha _ d e H0 Oc _ noOw σ H R.frzAll Q fun v H' e' r => q v H' e' (rp_sh (R.grow e').oo r f)
    · cases h
  · cases h
def apPkS : Option D → Option D := fun x => match x with
  | some d => if shD d = true then some d else none
  | none => none
theorem apPkS_some {d : D} (h : shD d = true) : apPkS (some d) = some d := if_pos h
theorem peekS_a {a : DF} {g : Gm} : peekS a g = apPkS (a (frzAll g)) := rfl
/-! ### is True -/
def isBD : D → D → Option D
  | .bl a, .bl b => some (.bl (decide (a = b)))
  | _, _ => none
theorem rr_isB {K : PySem.W.Frag} : RR K rIsB isBD := fun x y d h O H v u o rx ry Q q => by
  unfold isBD at h
  split at h
  · cases h; cases rx; cases ry
    exact ⟨_, _, rfl, rfl, rr_fin q (.bl _)⟩
  · cases h
end Zg
end

section
set_option Elab.async false
set_option linter.all false
set_option maxRecDepth 100000
set_option maxHeartbeats 4000000
namespace Y
open PySem L2 Zk
abbrev top (i : Nat) : Stmt := PySem.Challenge.pw_pairwarden_k05_papers_of_dealings.main.body.getD i (.Pass ⟨0, 0, 0, 0⟩)
abbrev s_are_different : Stmt := top 1
abbrev N_are_different : List Str := ["numbers", "limit", "number"]
abbrev s_are_ascending : Stmt := top 2
abbrev N_are_ascending : List Str := ["numbers", "limit", "least", "number"]
abbrev s_Pool_init : Stmt := inClass (top 7) 0
abbrev N_Pool_init : List Str := ["self", "caps", "holders"]
abbrev s_ordered_holders : Stmt := top 8
abbrev N_ordered_holders : List Str := ["holders", "seats", "piece", "row"]
abbrev s_pair_room : Stmt := top 9
abbrev N_pair_room : List Str := ["pool", "pair", "first", "second"]
abbrev s_holds_pair : Stmt := top 10
abbrev N_holds_pair : List Str := ["pool", "piece", "pair", "first", "second", "holders"]
abbrev s_is_dealing : Stmt := top 12
abbrev N_is_dealing : List Str := ["pool", "dealing", "given", "piece", "pair", "count"]
abbrev s_is_lot : Stmt := top 13
abbrev N_is_lot : List Str := ["pool", "lot"]
abbrev s_law_cell : Stmt := top 15
abbrev N_law_cell : List Str := ["_law_script", "_law_k"]
abbrev s_law_draws : Stmt := top 16
abbrev N_law_draws : List Str := ["_law_cell_here", "_law_sizes", "_law_left", "_law_digits", "_law_drawn", "_law_k", "_law_size", "_law_mixed"]
abbrev s_law_bits : Stmt := top 17
abbrev N_law_bits : List Str := ["_law_mask", "_law_count", "_law_k"]
abbrev s_law_pairs : Stmt := top 18
abbrev N_law_pairs : List Str := ["_law_seats", "_law_pairs_here", "_law_low", "_law_high"]
abbrev s_law_pool : Stmt := top 19
abbrev N_law_pool : List Str := ["_law_cell_here", "_law_most", "_law_drawn", "_law_seats", "_law_caps", "_law_pairs_here", "_law_holders", "_law_p", "_law_held", "_law_pair", "_law_k"]
abbrev s_law_wide_bits : Stmt := top 20
abbrev N_law_wide_bits : List Str := ["_law_mask", "_law_count", "_law_left", "_law_held", "_law_k"]
abbrev s_law_wide_pool : Stmt := top 21
abbrev N_law_wide_pool : List Str := ["_law_cell_here", "_law_most", "_law_drawn", "_law_seats", "_law_caps", "_law_holders", "_law_p", "_law_held", "_law_k"]
abbrev s_law_is_integer : Stmt := top 22
abbrev N_law_is_integer : List Str := ["_law_actual"]
abbrev s_law_is_pool : Stmt := top 23
abbrev N_law_is_pool : List Str := ["_law_pool_here", "_law_caps", "_law_holders", "_law_k", "_law_p", "_law_row"]
abbrev s_law_is_dealing : Stmt := top 24
abbrev N_law_is_dealing : List Str := ["_law_caps", "_law_holders", "_law_dealing", "_law_p", "_law_pair", "_law_one"]
abbrev s_law_says : Stmt := top 25
abbrev N_law_says : List Str := ["_law_actual", "_law_due"]
abbrev s_law_filled : Stmt := top 26
abbrev N_law_filled : List Str := ["_law_caps", "_law_holders", "_law_drawn", "_law_dealing", "_law_p", "_law_row", "_law_held", "_law_dealt", "_law_k", "_law_pair", "_law_one"]
abbrev s_law_entry : Stmt := top 27
abbrev N_law_entry : List Str := ["_law_caps", "_law_dealing", "_law_number", "_law_seats", "_law_low", "_law_high", "_law_way", "_law_other"]
abbrev s_law_is_lot : Stmt := top 28
abbrev N_law_is_lot : List Str := ["_law_lot", "_law_many", "_law_k"]
abbrev s_law_spoilt : Stmt := top 29
abbrev N_law_spoilt : List Str := ["_law_lot", "_law_many", "_law_way", "_law_spot", "_law_pick", "_law_place", "_law_bad"]
abbrev s_law_drawn_dealing : Stmt := top 30
abbrev N_law_drawn_dealing : List Str := ["_law_caps", "_law_holders", "_law_drawn", "_law_more", "_law_dealing", "_law_many", "_law_pairs_here", "_law_pair", "_law_left", "_law_row", "_law_p"]
abbrev s_law_asks_dealing : Stmt := top 31
abbrev N_law_asks_dealing : List Str := ["_law_pool_here", "_law_caps", "_law_holders", "_law_dealing", "_law_drawn", "_law_due", "_law_given", "_law_lower", "_law_other", "_law_cap", "_law_row"]
abbrev s_law_asks_lot : Stmt := top 32
abbrev N_law_asks_lot : List Str := ["_law_pool_here", "_law_many", "_law_lot", "_law_extra", "_law_given", "_law_due"]
abbrev s_law : Stmt := top 33
abbrev N_law : List Str := ["_law_script", "_law_drawn", "_law_caps", "_law_holders", "_law_pool_here", "_law_more", "_law_dealing", "_law_many", "_law_lots", "_law_lot", "_law_spoilt_here", "_law_row"]
/-- the classes -/
structure Cs where
  Pool : Addr
def t_are_different : SF :=
 (sSeq (sIf (dNotT (tDt truD (dN allD (aCons (dLc (dItems (dVar 0)) (dName 2) dYes (dChain leD ltD (dC (.int 0)) (dVar 2) (dVar 1)) [2]) aNil))))
 (sRet (dC (.bl false)))
 sNext)
 (sRet (d2 eqD (d1 lenSetD (dVar 0)) (dN lenD (aCons (dVar 0) aNil)))))
def g_are_different : PF := runG 1 (t_are_different)
def t_are_ascending : SF :=
 (sSeq (sAsg (dC (.int 0)) (dName 2))
 (sSeq (sFor (dItems (dVar 0)) (dName 3)
 (sSeq (sIf (dNotT (tDt blD (dChain leD ltD (dVar 2) (dVar 3) (dVar 1))))
 (sRet (dC (.bl false)))
 sNext)
 (sAsg (d2 addD (dVar 3) (dC (.int 1))) (dName 2))))
 (sRet (dC (.bl true)))))
def g_are_ascending : PF := runG 2 (t_are_ascending)
def t_ordered_holders : SF :=
 (sSeq (sFor (dEnum (aCons (dVar 0) aNil)) (dgTup 2 (dgCons (dName 2) (dgCons (dName 3) dgNil)))
 (sIf (dNotT (tDt truD (dCall 2 (g_are_different) (aCons (dVar 3) (aCons (dVar 1) aNil)))))
 sNever
 sNext))
 (sRet (dN tupleD (aCons (dLc (dItems (dVar 0)) (dName 3) dYes (dN tupleD (aCons (dN sortedD (aCons (dVar 3) aNil)) aNil)) [3]) aNil))))
def g_ordered_holders : PF := runG 2 (t_ordered_holders)
def t_Pool_init (c : Cs) : SF :=
 (sSeq (sIf (dOrT (tDt blD (d2 eqD (dN lenD (aCons (dVar 1) aNil)) (dC (.int 0)))) (tDt blD (d2 ltD (dN minD (aCons (dVar 1) aNil)) (dC (.int 0)))))
 sNever
 sNext)
 (sSeq (sFldD c.Pool 0 "caps" (dN tupleD (aCons (dVar 1) aNil)))
 (sSeq (sFldD c.Pool 0 "holders" (dCall 2 (g_ordered_holders) (aCons (dVar 2) (aCons (dN lenD (aCons (dVar 1) aNil)) aNil))))
 (sSeq (sFldD c.Pool 0 "seats" (peekF (dN lenD (aCons (d1 (fldD c.Pool "caps") (dVar 0)) aNil))))
 (sFldD c.Pool 0 "pieces" (peekF (dN lenD (aCons (d1 (fldD c.Pool "holders") (dVar 0)) aNil))))))))
def g_Pool_init (c : Cs) : List D → Option (List (Str × D)) := runI c.Pool 0 (t_Pool_init c)
def t_pair_room (c : Cs) : SF :=
 (sSeq (sAsg (dVar 1) (dgTup 2 (dgCons (dName 2) (dgCons (dName 3) dgNil))))
 (sRet (dN minD (aCons (d2 ixD (d1 (fldD c.Pool "caps") (dVar 0)) (dVar 2)) (aCons (d2 ixD (d1 (fldD c.Pool "caps") (dVar 0)) (dVar 3)) aNil)))))
def g_pair_room (c : Cs) : PF := runG 2 (t_pair_room c)
def t_holds_pair (c : Cs) : SF :=
 (sSeq (sAsg (dVar 2) (dgTup 2 (dgCons (dName 3) (dgCons (dName 4) dgNil))))
 (sSeq (sAsg (d2 ixD (d1 (fldD c.Pool "holders") (dVar 0)) (dVar 1)) (dName 5))
 (sRet (dAndV (d2 ltD (dVar 3) (dVar 4)) (dAndV (d2 inD (dVar 3) (dVar 5)) (d2 inD (dVar 4) (dVar 5)))))))
def g_holds_pair (c : Cs) : PF := runG 3 (t_holds_pair c)
def t_is_dealing (c : Cs) : SF :=
 (sSeq (sIf (tDt blD (d2 neD (dN lenD (aCons (dVar 1) aNil)) (d1 (fldD c.Pool "pieces") (dVar 0))))
 (sRet (dC (.bl false)))
 sNext)
 (sSeq (sAsgO (fun _ => some (.dct [])) 2)
 (sSeq (sFor (dEnum (aCons (dVar 1) aNil)) (dgTup 2 (dgCons (dName 3) (dgCons (dName 4) dgNil)))
 (sIf (tDt blD (d2 isntD (dVar 4) (dC .non)))
 (sSeq (sIf (dNotT (tDt truD (dCall 3 (g_holds_pair c) (aCons (dVar 0) (aCons (dVar 3) (aCons (dVar 4) aNil))))))
 (sRet (dC (.bl false)))
 sNext)
 (sPutO 2 (dVar 4) (d2 addD (dGetO 2 (dVar 4) (dC (.int 0))) (dC (.int 1)))))
 sNext))
 (sRet (dN allD (aCons (dLcIt 2 (dgTup 2 (dgCons (dName 4) (dgCons (dName 5) dgNil))) dYes (d2 leD (dVar 5) (dCall 2 (g_pair_room c) (aCons (dVar 0) (aCons (dVar 4) aNil)))) [4, 5]) aNil))))))
def g_is_dealing (c : Cs) : PF := runG 4 (t_is_dealing c)
def t_is_lot (c : Cs) : SF :=
 (sRet (dCall 2 (g_are_ascending) (aCons (dVar 1) (aCons (d1 (fldD c.Pool "pieces") (dVar 0)) aNil))))
def g_is_lot (c : Cs) : PF := runG 0 (t_is_lot c)
def t_law_cell : SF :=
 (sSeq (sIf (tDt blD (d2 ltD (dVar 1) (dN lenD (aCons (dVar 0) aNil))))
 (sRet (d2 ixD (dVar 0) (dVar 1)))
 sNext)
 (sRet (dC (.int 0))))
def g_law_cell : PF := runG 0 (t_law_cell)
def t_law_draws : SF :=
 (sSeq (sAsg (dN absD (aCons (dN intD (aCons (dVar 0) aNil)) aNil)) (dName 2))
 (sSeq (sAsg (d2 geD (dVar 2) (d2 powD (dC (.int 10)) (dC (.int 18)))) (dName 3))
 (sSeq (sAsgO (dN mkLst aNil) 4)
 (sSeq (sFor (dRng1 (aCons (dN lenD (aCons (dVar 1) aNil)) aNil)) (dName 5)
 (sSeq (sAsg (d2 ixD (dVar 1) (dVar 5)) (dName 6))
 (sIf (dAndT (tDt truD (dVar 3)) (tDt blD (d2 gtD (dVar 2) (dC (.int 0)))))
 (sSeq (sApp 4 (d2 modD (dN intD (aCons (dVar 2) aNil)) (dVar 6)))
 (sAsg (d2 fdivD (dVar 2) (dVar 6)) (dName 2)))
 (sSeq (sAsg (d2 modD (dN intD (aCons (d2 addD (d2 addD (dN absD (aCons (dN intD (aCons (dVar 0) aNil)) aNil)) (d2 mulD (dC (.int 7919)) (dVar 5))) (dC (.int 13))) aNil)) (dC (.int 2147483647))) (dName 7))
 (sSeq (sAsg (d2 modD (dN intD (aCons (d2 mulD (dVar 7) (d2 addD (dVar 7) (dC (.int 48271)))) aNil)) (dC (.int 2147483629))) (dName 7))
 (sSeq (sAsg (d2 modD (dN intD (aCons (d2 addD (d2 mulD (dVar 7) (d2 addD (dVar 7) (dC (.int 69621)))) (d2 mulD (dC (.int 31)) (dVar 5))) aNil)) (dC (.int 2147483647))) (dName 7))
 (sApp 4 (d2 modD (dN intD (aCons (d2 fdivD (dVar 7) (dC (.int 9))) aNil)) (dVar 6)))))))))
 (sRetV 4)))))
def g_law_draws : PF := runG 6 (t_law_draws)
def t_law_bits : SF :=
 (sRetO (dLc (dRng1 (aCons (dVar 1) aNil)) (dName 2) (tDt blD (d2 eqD (d2 modD (dN intD (aCons (d2 fdivD (dVar 0) (d2 ixD (dN mkTup (aCons (dC (.int 1)) (aCons (dC (.int 2)) (aCons (dC (.int 4)) (aCons (dC (.int 8)) (aCons (dC (.int 16)) (aCons (dC (.int 32)) (aCons (dC (.int 64)) aNil)))))))) (dVar 2))) aNil)) (dC (.int 2))) (dC (.int 1)))) (dVar 2) [2]))
def g_law_bits : PF := runG 1 (t_law_bits)
def t_law_pairs : SF :=
 (sSeq (sAsgO (dN mkLst aNil) 1)
 (sSeq (sFor (dRng1 (aCons (dVar 0) aNil)) (dName 2)
 (sFor (dRng2 (aCons (d2 addD (dVar 2) (dC (.int 1))) (aCons (dVar 0) aNil))) (dName 3)
 (sApp 1 (dN mkTup (aCons (dVar 2) (aCons (dVar 3) aNil))))))
 (sRetV 1)))
def g_law_pairs : PF := runG 3 (t_law_pairs)
def t_law_pool : SF :=
 (sSeq (sAsg (dCall 2 (g_law_draws) (aCons (dVar 0) (aCons (d2 addD (d2 addD (d2 addD (dN mkLst (aCons (dC (.int 5)) (aCons (d2 addD (dVar 1) (dC (.int 1))) (aCons (dC (.int 5)) aNil)))) (d2 mulD (dN mkLst (aCons (dC (.int 6)) aNil)) (dC (.int 5)))) (d2 mulD (dN mkLst (aCons (dC (.int 32)) aNil)) (dC (.int 8)))) (d2 mulD (dN mkLst (aCons (dC (.int 10)) aNil)) (dC (.int 8)))) aNil))) (dName 2))
 (sSeq (sAsg (d2 addD (d2 ixD (dVar 2) (dC (.int 0))) (dC (.int 1))) (dName 3))
 (sSeq (sAsg (dLc (dRng1 (aCons (dVar 3) aNil)) (dName 10) dYes (d2 ixD (dN mkTup (aCons (dC (.int 0)) (aCons (dC (.int 1)) (aCons (dC (.int 1)) (aCons (dC (.int 2)) (aCons (dC (.int 3)) (aCons (d2 addD (d2 powD (dC (.int 10)) (dC (.int 12))) (dVar 10)) aNil))))))) (d2 ixD (dVar 2) (d2 addD (dC (.int 3)) (dVar 10)))) [10]) (dName 4))
 (sSeq (sAsg (dCall 1 (g_law_pairs) (aCons (dVar 3) aNil)) (dName 5))
 (sSeq (sAsgO (dN mkLst aNil) 6)
 (sSeq (sFor (dRng1 (aCons (d2 ixD (dVar 2) (dC (.int 1))) aNil)) (dName 7)
 (sSeq (sAsg (dCall 2 (g_law_bits) (aCons (d2 ixD (dVar 2) (d2 addD (dC (.int 8)) (dVar 7))) (aCons (dVar 3) aNil))) (dName 8))
 (sSeq (sIf (dAndT (tDt blD (d2 eqD (d2 ixD (dVar 2) (dC (.int 2))) (dC (.int 1)))) (tDt blD (d2 gtD (dN lenD (aCons (dVar 5) aNil)) (dC (.int 0)))))
 (sSeq (sAsg (d2 ixD (dVar 5) (d2 modD (dN intD (aCons (d2 ixD (dVar 2) (d2 addD (dC (.int 16)) (dVar 7))) aNil)) (dN lenD (aCons (dVar 5) aNil)))) (dName 9))
 (sAsg (dLc (dRng1 (aCons (dVar 3) aNil)) (dName 10) (dOrT (tDt blD (d2 inD (dVar 10) (dVar 8))) (tDt blD (d2 inD (dVar 10) (dVar 9)))) (dVar 10) [10]) (dName 8)))
 sNext)
 (sSeq (sIf (dAndT (tDt blD (d2 eqD (d2 ixD (dVar 2) (dC (.int 2))) (dC (.int 2)))) (tDt blD (d2 gtD (dN lenD (aCons (dVar 5) aNil)) (dC (.int 0)))))
 (sAsg (dN listD (aCons (d2 ixD (dVar 5) (d2 modD (dN intD (aCons (d2 ixD (dVar 2) (d2 addD (dC (.int 16)) (dVar 7))) aNil)) (dN lenD (aCons (dVar 5) aNil)))) aNil)) (dName 8))
 sNext)
 (sSeq (sIf (tDt blD (d2 eqD (d2 ixD (dVar 2) (dC (.int 2))) (dC (.int 3))))
 (sAsg (dCall 2 (g_law_bits) (aCons (d2 ixD (dVar 2) (d2 addD (dC (.int 8)) (d2 fdivD (dVar 7) (dC (.int 4))))) (aCons (dVar 3) aNil))) (dName 8))
 sNext)
 (sApp 6 (dVar 8)))))))
 (sSeq (sIf (tDt blD (d2 eqD (d2 ixD (dVar 2) (dC (.int 2))) (dC (.int 4))))
 (sAsg (dLc (dRng1 (aCons (dVar 3) aNil)) (dName 10) dYes (d2 ixD (dVar 4) (dC (.int 0))) [10]) (dName 4))
 sNext)
 (sFrz [6] (sRet (dN mkTup (aCons (dVar 4) (aCons (dVar 6) aNil))))))))))))
def g_law_pool : PF := runG 9 (t_law_pool)
def t_law_wide_bits : SF :=
 (sSeq (sAsg (dN intD (aCons (dVar 0) aNil)) (dName 2))
 (sSeq (sAsgO (dN mkLst aNil) 3)
 (sSeq (sFor (dRng1 (aCons (dVar 1) aNil)) (dName 4)
 (sSeq (sIf (tDt blD (d2 eqD (d2 modD (dN intD (aCons (dVar 2) aNil)) (dC (.int 2))) (dC (.int 1))))
 (sApp 3 (dVar 4))
 sNext)
 (sAsg (d2 fdivD (dVar 2) (dC (.int 2))) (dName 2))))
 (sRetV 3))))
def g_law_wide_bits : PF := runG 3 (t_law_wide_bits)
def t_law_wide_pool : SF :=
 (sSeq (sAsg (dCall 2 (g_law_draws) (aCons (dVar 0) (aCons (d2 addD (d2 addD (dN mkLst (aCons (dC (.int 5)) (aCons (d2 addD (dVar 1) (dC (.int 1))) (aCons (dC (.int 3)) aNil)))) (d2 mulD (dN mkLst (aCons (dC (.int 10)) aNil)) (dC (.int 12)))) (d2 mulD (dN mkLst (aCons (dC (.int 4096)) aNil)) (dC (.int 60)))) aNil))) (dName 2))
 (sSeq (sAsg (d2 addD (d2 ixD (dVar 2) (dC (.int 0))) (dC (.int 8))) (dName 3))
 (sSeq (sAsg (dLc (dRng1 (aCons (dVar 3) aNil)) (dName 8) dYes (d2 ixD (dN mkTup (aCons (dC (.int 0)) (aCons (dC (.int 1)) (aCons (dC (.int 2)) (aCons (dC (.int 3)) (aCons (dC (.int 4)) (aCons (dC (.int 7)) (aCons (dC (.int 9)) (aCons (dC (.int 10)) (aCons (dC (.int 11)) (aCons (d2 addD (d2 powD (dC (.int 10)) (dC (.int 39))) (dVar 8)) aNil))))))))))) (d2 ixD (dVar 2) (d2 addD (dC (.int 3)) (dVar 8)))) [8]) (dName 4))
 (sSeq (sAsgO (dN mkLst aNil) 5)
 (sSeq (sFor (dRng1 (aCons (d2 ixD (dVar 2) (dC (.int 1))) aNil)) (dName 6)
 (sSeq (sAsg (dCall 2 (g_law_wide_bits) (aCons (d2 ixD (dVar 2) (d2 addD (dC (.int 15)) (dVar 6))) (aCons (dVar 3) aNil))) (dName 7))
 (sSeq (sIf (tDt blD (d2 eqD (d2 ixD (dVar 2) (dC (.int 2))) (dC (.int 1))))
 (sAsg (dSl (dVar 7) oNone (oSome (dC (.int 2)))) (dName 7))
 sNext)
 (sSeq (sIf (tDt blD (d2 eqD (d2 ixD (dVar 2) (dC (.int 2))) (dC (.int 2))))
 (sAsg (dSl (dVar 7) (oSome (dN maxD (aCons (dC (.int 0)) (aCons (d2 subD (dN lenD (aCons (dVar 7) aNil)) (dC (.int 2))) aNil)))) oNone) (dName 7))
 sNext)
 (sApp 5 (dVar 7))))))
 (sFrz [5] (sRet (dN mkTup (aCons (dVar 4) (aCons (dVar 5) aNil))))))))))
def g_law_wide_pool : PF := runG 7 (t_law_wide_pool)
def t_law_is_integer : SF :=
 (sRet (dAndV (dN isiD (aCons (dVar 0) (aCons (dC (.ty "int")) aNil))) (d1 notD (dN isiD (aCons (dVar 0) (aCons (dC (.ty "bool")) aNil))))))
def g_law_is_integer : PF := runG 0 (t_law_is_integer)
def t_law_is_pool (c : Cs) : SF :=
 (sSeq (sIf (dOrT (dNotT (tDt truD (dN isiD (aCons (d1 (fldD c.Pool "caps") (dVar 0)) (aCons (dC (.ty "tuple")) aNil))))) (dNotT (tDt truD (dN isiD (aCons (d1 (fldD c.Pool "holders") (dVar 0)) (aCons (dC (.ty "tuple")) aNil))))))
 (sRet (dC (.bl false)))
 sNext)
 (sSeq (sIf (dOrT (dNotT (tDt truD (dCall 1 (g_law_is_integer) (aCons (d1 (fldD c.Pool "seats") (dVar 0)) aNil)))) (dNotT (tDt truD (dCall 1 (g_law_is_integer) (aCons (d1 (fldD c.Pool "pieces") (dVar 0)) aNil)))))
 (sRet (dC (.bl false)))
 sNext)
 (sSeq (sIf (dOrT (tDt blD (d2 neD (d1 (fldD c.Pool "seats") (dVar 0)) (dN lenD (aCons (dVar 1) aNil)))) (tDt blD (d2 neD (d1 (fldD c.Pool "pieces") (dVar 0)) (dN lenD (aCons (dVar 2) aNil)))))
 (sRet (dC (.bl false)))
 sNext)
 (sSeq (sIf (dOrT (tDt blD (d2 neD (dN lenD (aCons (d1 (fldD c.Pool "caps") (dVar 0)) aNil)) (dN lenD (aCons (dVar 1) aNil)))) (tDt blD (d2 neD (dN lenD (aCons (d1 (fldD c.Pool "holders") (dVar 0)) aNil)) (dN lenD (aCons (dVar 2) aNil)))))
 (sRet (dC (.bl false)))
 sNext)
 (sSeq (sFor (dRng1 (aCons (dN lenD (aCons (dVar 1) aNil)) aNil)) (dName 3)
 (sIf (dOrT (dNotT (tDt truD (dCall 1 (g_law_is_integer) (aCons (d2 ixD (d1 (fldD c.Pool "caps") (dVar 0)) (dVar 3)) aNil)))) (tDt blD (d2 neD (d2 ixD (d1 (fldD c.Pool "caps") (dVar 0)) (dVar 3)) (d2 ixD (dVar 1) (dVar 3)))))
 (sRet (dC (.bl false)))
 sNext))
 (sSeq (sFor (dRng1 (aCons (dN lenD (aCons (dVar 2) aNil)) aNil)) (dName 4)
 (sSeq (sAsg (d2 ixD (d1 (fldD c.Pool "holders") (dVar 0)) (dVar 4)) (dName 5))
 (sSeq (sIf (dOrT (dNotT (tDt truD (dN isiD (aCons (dVar 5) (aCons (dC (.ty "tuple")) aNil))))) (tDt blD (d2 neD (dN lenD (aCons (dVar 5) aNil)) (dN lenD (aCons (d2 ixD (dVar 2) (dVar 4)) aNil)))))
 (sRet (dC (.bl false)))
 sNext)
 (sFor (dRng1 (aCons (dN lenD (aCons (dVar 5) aNil)) aNil)) (dName 3)
 (sIf (dOrT (dNotT (tDt truD (dCall 1 (g_law_is_integer) (aCons (d2 ixD (dVar 5) (dVar 3)) aNil)))) (tDt blD (d2 neD (d2 ixD (dVar 5) (dVar 3)) (d2 ixD (d2 ixD (dVar 2) (dVar 4)) (dVar 3)))))
 (sRet (dC (.bl false)))
 sNext)))))
 (sRet (dC (.bl true)))))))))
def g_law_is_pool (c : Cs) : PF := runG 3 (t_law_is_pool c)
def t_law_is_dealing : SF :=
 (sSeq (sIf (dOrT (dNotT (tDt truD (dN isiD (aCons (dVar 2) (aCons (dC (.ty "list")) aNil))))) (tDt blD (d2 neD (dN lenD (aCons (dVar 2) aNil)) (dN lenD (aCons (dVar 1) aNil)))))
 (sRet (dC (.bl false)))
 sNext)
 (sSeq (sFor (dRng1 (aCons (dN lenD (aCons (dVar 1) aNil)) aNil)) (dName 3)
 (sSeq (sAsg (d2 ixD (dVar 2) (dVar 3)) (dName 4))
 (sIf (tDt blD (d2 isntD (dVar 4) (dC .non)))
 (sSeq (sIf (dOrT (dNotT (tDt truD (dN isiD (aCons (dVar 4) (aCons (dC (.ty "tuple")) aNil))))) (tDt blD (d2 neD (dN lenD (aCons (dVar 4) aNil)) (dC (.int 2)))))
 (sRet (dC (.bl false)))
 sNext)
 (sSeq (sIf (dOrT (dNotT (tDt truD (dCall 1 (g_law_is_integer) (aCons (d2 ixD (dVar 4) (dC (.int 0))) aNil)))) (dNotT (tDt truD (dCall 1 (g_law_is_integer) (aCons (d2 ixD (dVar 4) (dC (.int 1))) aNil)))))
 (sRet (dC (.bl false)))
 sNext)
 (sIf (dOrT (dNotT (tDt blD (d2 ltD (d2 ixD (dVar 4) (dC (.int 0))) (d2 ixD (dVar 4) (dC (.int 1)))))) (dOrT (tDt blD (d2 ninD (d2 ixD (dVar 4) (dC (.int 0))) (d2 ixD (dVar 1) (dVar 3)))) (tDt blD (d2 ninD (d2 ixD (dVar 4) (dC (.int 1))) (d2 ixD (dVar 1) (dVar 3))))))
 (sRet (dC (.bl false)))
 sNext)))
 sNext)))
 (sSeq (sFor (dItems (dCall 1 (g_law_pairs) (aCons (dN lenD (aCons (dVar 0) aNil)) aNil))) (dName 4)
 (sIf (tDt blD (d2 gtD (dN lenD (aCons (dLc (dItems (dVar 2)) (dName 5) (tDt blD (d2 eqD (dVar 5) (dVar 4))) (dVar 5) [5]) aNil)) (dN minD (aCons (d2 ixD (dVar 0) (d2 ixD (dVar 4) (dC (.int 0)))) (aCons (d2 ixD (dVar 0) (d2 ixD (dVar 4) (dC (.int 1)))) aNil)))))
 (sRet (dC (.bl false)))
 sNext))
 (sRet (dC (.bl true))))))
def g_law_is_dealing : PF := runG 3 (t_law_is_dealing)
def t_law_says : SF :=
 (sSeq (sIf (tDt truD (dVar 1))
 (sRet (d2 Zg.isBD (dVar 0) (dC (.bl true))))
 sNext)
 (sRet (d2 Zg.isBD (dVar 0) (dC (.bl false)))))
def g_law_says : PF := runG 0 (t_law_says)
def t_law_filled : SF :=
 (sSeq (sAsgO (dN mkLst aNil) 3)
 (sSeq (sFor (dRng1 (aCons (dN lenD (aCons (dVar 1) aNil)) aNil)) (dName 4)
 (sSeq (sAsg (d2 ixD (dVar 1) (dVar 4)) (dName 5))
 (sSeq (sAsg (dLc (dItems (dCall 1 (g_law_pairs) (aCons (dN lenD (aCons (dVar 0) aNil)) aNil))) (dName 9) (dAndT (tDt blD (d2 inD (d2 ixD (dVar 9) (dC (.int 0))) (dVar 5))) (tDt blD (d2 inD (d2 ixD (dVar 9) (dC (.int 1))) (dVar 5)))) (dVar 9) [9]) (dName 6))
 (sSeq (sAsg (dC .non) (dName 7))
 (sSeq (sFor (dRng1 (aCons (dN lenD (aCons (dVar 6) aNil)) aNil)) (dName 8)
 (sSeq (sAsg (d2 ixD (dVar 6) (d2 modD (dN intD (aCons (d2 addD (d2 ixD (dVar 2) (dVar 4)) (dVar 8)) aNil)) (dN lenD (aCons (dVar 6) aNil)))) (dName 9))
 (sIf (peekT (tDt blD (d2 ltD (dN lenD (aCons (dLc (dItems (dVar 3)) (dName 10) (tDt blD (d2 eqD (dVar 10) (dVar 9))) (dVar 10) [10]) aNil)) (dN minD (aCons (d2 ixD (dVar 0) (d2 ixD (dVar 9) (dC (.int 0)))) (aCons (d2 ixD (dVar 0) (d2 ixD (dVar 9) (dC (.int 1)))) aNil))))))
 (sSeq (sAsg (dVar 9) (dName 7))
 sBreak)
 sNext)))
 (sSeq (sIf (tDt blD (d2 eqD (dN intD (aCons (d2 fdivD (d2 ixD (dVar 2) (dVar 4)) (dC (.int 60))) aNil)) (dC (.int 4))))
 (sAsg (dC .non) (dName 7))
 sNext)
 (sApp 3 (dVar 7))))))))
 (sRetV 3)))
def g_law_filled : PF := runG 8 (t_law_filled)
def t_law_entry : SF :=
 (sSeq (sAsg (dN lenD (aCons (dVar 0) aNil)) (dName 3))
 (sSeq (sAsg (d2 modD (dN intD (aCons (d2 fdivD (dVar 2) (dC (.int 10))) aNil)) (dVar 3)) (dName 4))
 (sSeq (sAsg (d2 modD (dN intD (aCons (d2 fdivD (dVar 2) (dC (.int 600))) aNil)) (dVar 3)) (dName 5))
 (sSeq (sAsg (d2 modD (dN intD (aCons (dVar 2) aNil)) (dC (.int 10))) (dName 6))
 (sSeq (sIf (tDt blD (d2 eqD (dVar 6) (dC (.int 0))))
 (sRet (dC .non))
 sNext)
 (sSeq (sIf (tDt blD (d2 eqD (dVar 6) (dC (.int 1))))
 (sRet (dN mkTup (aCons (dVar 4) (aCons (dVar 3) aNil))))
 sNext)
 (sSeq (sIf (tDt blD (d2 eqD (dVar 6) (dC (.int 2))))
 (sRet (dN mkTup (aCons (d1 negD (dC (.int 1))) (aCons (dVar 4) aNil))))
 sNext)
 (sSeq (sIf (tDt blD (d2 eqD (dVar 6) (dC (.int 3))))
 (sRet (dN mkTup (aCons (dVar 4) (aCons (dVar 4) aNil))))
 sNext)
 (sSeq (sAsg (d2 ixD (dVar 1) (d2 modD (dN intD (aCons (d2 fdivD (dVar 2) (dC (.int 10))) aNil)) (dN lenD (aCons (dVar 1) aNil)))) (dName 7))
 (sSeq (sIf (dOrT (tDt blD (d2 ltD (dVar 6) (dC (.int 7)))) (tDt blD (d2 isD (dVar 7) (dC .non))))
 (sRet (dN mkTup (aCons (dN minD (aCons (dVar 4) (aCons (dVar 5) aNil))) (aCons (dN maxD (aCons (dVar 4) (aCons (dVar 5) aNil))) aNil))))
 sNext)
 (sSeq (sIf (tDt blD (d2 eqD (dVar 6) (dC (.int 7))))
 (sRet (dN mkTup (aCons (d2 ixD (dVar 7) (dC (.int 1))) (aCons (d2 ixD (dVar 7) (dC (.int 0))) aNil))))
 sNext)
 (sRet (dVar 7)))))))))))))
def g_law_entry : PF := runG 5 (t_law_entry)
def t_law_is_lot : SF :=
 (sSeq (sFor (dRng1 (aCons (dN lenD (aCons (dVar 0) aNil)) aNil)) (dName 2)
 (sIf (dOrT (tDt blD (d2 ltD (d2 ixD (dVar 0) (dVar 2)) (dC (.int 0)))) (dOrT (tDt blD (d2 geD (d2 ixD (dVar 0) (dVar 2)) (dVar 1))) (dAndT (tDt blD (d2 gtD (dVar 2) (dC (.int 0)))) (tDt blD (d2 geD (d2 ixD (dVar 0) (d2 subD (dVar 2) (dC (.int 1)))) (d2 ixD (dVar 0) (dVar 2)))))))
 (sRet (dC (.bl false)))
 sNext))
 (sRet (dC (.bl true))))
def g_law_is_lot : PF := runG 1 (t_law_is_lot)
def t_law_spoilt : SF :=
 (sSeq (sIf (tDt blD (d2 gtD (dVar 2) (dC (.int 4))))
 (sRet (dN listD (aCons (dVar 0) aNil)))
 sNext)
 (sSeq (sIf (dAndT (tDt blD (d2 eqD (dVar 2) (dC (.int 4)))) (tDt blD (d2 gtD (dN lenD (aCons (dVar 0) aNil)) (dC (.int 1)))))
 (sSeq (sAsg (d2 modD (dN intD (aCons (dVar 3) aNil)) (d2 subD (dN lenD (aCons (dVar 0) aNil)) (dC (.int 1)))) (dName 5))
 (sRet (d2 addD (d2 addD (dSl (dVar 0) oNone (oSome (dVar 5))) (dN mkLst (aCons (d2 ixD (dVar 0) (d2 addD (dVar 5) (dC (.int 1)))) (aCons (d2 ixD (dVar 0) (dVar 5)) aNil)))) (dSl (dVar 0) (oSome (d2 addD (dVar 5) (dC (.int 2)))) oNone))))
 sNext)
 (sSeq (sAsg (d2 ixD (dN mkTup (aCons (dVar 1) (aCons (d1 negD (dC (.int 1))) (aCons (d2 addD (dVar 1) (dC (.int 1))) (aCons (d1 negD (dVar 1)) (aCons (dC (.int 0)) aNil)))))) (dVar 2)) (dName 6))
 (sSeq (sIf (dAndT (tDt blD (d2 gtD (dVar 2) (dC (.int 1)))) (tDt blD (d2 gtD (dN lenD (aCons (dVar 0) aNil)) (dC (.int 0)))))
 (sAsg (d2 ixD (dVar 0) (d2 modD (dN intD (aCons (dVar 4) aNil)) (dN lenD (aCons (dVar 0) aNil)))) (dName 6))
 sNext)
 (sSeq (sAsg (d2 modD (dN intD (aCons (dVar 3) aNil)) (d2 addD (dN lenD (aCons (dVar 0) aNil)) (dC (.int 1)))) (dName 5))
 (sRet (d2 addD (d2 addD (dSl (dVar 0) oNone (oSome (dVar 5))) (dN mkLst (aCons (dVar 6) aNil))) (dSl (dVar 0) (oSome (dVar 5)) oNone))))))))
def g_law_spoilt : PF := runG 2 (t_law_spoilt)
def t_law_drawn_dealing : SF :=
 (sSeq (sAsgO (dCallO 3 (g_law_filled) (aCons (dVar 0) (aCons (dVar 1) (aCons (dVar 3) aNil)))) 4)
 (sSeq (sAsg (peekF (dN lenD (aCons (dVar 4) aNil))) (dName 5))
 (sSeq (sIf (dAndT (tDt blD (d2 eqD (d2 ixD (dVar 2) (dC (.int 1))) (dC (.int 1)))) (tDt blD (d2 gtD (dVar 5) (dC (.int 0)))))
 (sSetI 4 (d2 modD (dN intD (aCons (d2 ixD (dVar 2) (dC (.int 2))) aNil)) (dVar 5)) (Zg.peekS (dCall 3 (g_law_entry) (aCons (dVar 0) (aCons (dVar 4) (aCons (d2 ixD (dVar 2) (dC (.int 3))) aNil))))))
 sNext)
 (sSeq (sIf (dAndT (tDt blD (d2 eqD (d2 ixD (dVar 2) (dC (.int 1))) (dC (.int 2)))) (tDt blD (d2 gtD (dN lenD (aCons (dVar 0) aNil)) (dC (.int 1)))))
 (sSeq (sAsg (dCall 1 (g_law_pairs) (aCons (dN lenD (aCons (dVar 0) aNil)) aNil)) (dName 6))
 (sSeq (sAsg (d2 ixD (dVar 6) (d2 modD (dN intD (aCons (d2 ixD (dVar 2) (dC (.int 2))) aNil)) (dN lenD (aCons (dVar 6) aNil)))) (dName 7))
 (sSeq (sAsg (d2 addD (dN minD (aCons (d2 ixD (dVar 0) (d2 ixD (dVar 7) (dC (.int 0)))) (aCons (d2 ixD (dVar 0) (d2 ixD (dVar 7) (dC (.int 1)))) aNil))) (d2 ixD (dVar 2) (dC (.int 4)))) (dName 8))
 (sSeq (sAsgO (dN mkLst aNil) 4)
 (sFor (dItems (dVar 1)) (dName 9)
 (sIf (dAndT (tDt blD (d2 gtD (dVar 8) (dC (.int 0)))) (dAndT (tDt blD (d2 inD (d2 ixD (dVar 7) (dC (.int 0))) (dVar 9))) (tDt blD (d2 inD (d2 ixD (dVar 7) (dC (.int 1))) (dVar 9)))))
 (sSeq (sApp 4 (dVar 7))
 (sAsg (d2 subD (dVar 8) (dC (.int 1))) (dName 8)))
 (sApp 4 (dC .non))))))))
 sNext)
 (sSeq (sIf (tDt blD (d2 eqD (d2 ixD (dVar 2) (dC (.int 1))) (dC (.int 3))))
 (sFrz [4] (sAsgO (dLc (dRng1 (aCons (dVar 5) aNil)) (dName 10) dYes (dCall 3 (g_law_entry) (aCons (dVar 0) (aCons (dVar 4) (aCons (d2 ixD (dVar 3) (d2 addD (dC (.int 24)) (dVar 10))) aNil)))) [10]) 4))
 sNext)
 (sSeq (sIf (tDt blD (d2 eqD (d2 ixD (dVar 2) (dC (.int 5))) (dC (.int 1))))
 (sFrz [4] (sAsg (dSl (dVar 4) oNone (oSome (dN maxD (aCons (dC (.int 0)) (aCons (d2 subD (dVar 5) (dC (.int 1))) aNil))))) (dName 4)))
 sNext)
 (sSeq (sIf (tDt blD (d2 eqD (d2 ixD (dVar 2) (dC (.int 5))) (dC (.int 2))))
 (sFrz [4] (sAsg (d2 addD (dVar 4) (dN mkLst (aCons (dC .non) aNil))) (dName 4)))
 sNext)
 (sFrz [4] (sRet (dVar 4))))))))))
def g_law_drawn_dealing : PF := runG 7 (t_law_drawn_dealing)
def t_law_asks_dealing (c : Cs) : SF :=
 (sSeq (sAsg (dCall 3 (g_law_is_dealing) (aCons (dVar 1) (aCons (dVar 2) (aCons (dVar 3) aNil)))) (dName 5))
 (sSeq (sAsgO (dN listD (aCons (dVar 3) aNil)) 6)
 (sSeq (sIf (peekT (dOrT (dNotT (tDt truD (dCall 2 (g_law_says) (aCons (dCall 2 (g_is_dealing c) (aCons (dVar 0) (aCons (dVar 6) aNil))) (aCons (dVar 5) aNil))))) (tDt blD (d2 neD (dN Zg.reprD (aCons (dVar 6) aNil)) (dN Zg.reprD (aCons (dVar 3) aNil))))))
 (sRet (dC (.bl false)))
 sNext)
 (sSeq (sAsg (dLc (dItems (dVar 1)) (dName 9) dYes (dN maxD (aCons (dC (.int 0)) (aCons (d2 subD (dVar 9) (dC (.int 1))) aNil))) [9]) (dName 7))
 (sSeq (sAsg (dMake c.Pool 2 (g_Pool_init c) (aCons (dN listD (aCons (dVar 7) aNil)) (aCons (dLc (dItems (dVar 2)) (dName 10) dYes (dN listD (aCons (dVar 10) aNil)) [10]) aNil))) (dName 8))
 (sSeq (sIf (peekT (dNotT (tDt truD (dCall 2 (g_law_says) (aCons (dCall 2 (g_is_dealing c) (aCons (dVar 8) (aCons (dVar 6) aNil))) (aCons (dCall 3 (g_law_is_dealing) (aCons (dVar 7) (aCons (dVar 2) (aCons (dVar 3) aNil)))) aNil))))))
 (sRet (dC (.bl false)))
 sNext)
 (sSeq (sIf (peekT (tDt blD (d2 gtD (dN lenD (aCons (dVar 6) aNil)) (dC (.int 0)))))
 (sSetI 6 (peekF (d2 modD (dN intD (aCons (d2 ixD (dVar 4) (dC (.int 6))) aNil)) (dN lenD (aCons (dVar 6) aNil)))) (dCall 3 (g_law_entry) (aCons (dVar 1) (aCons (dVar 3) (aCons (d2 ixD (dVar 4) (dC (.int 7))) aNil)))))
 (sApp 6 (dC .non)))
 (sSeq (sIf (peekT (dNotT (tDt truD (dCall 2 (g_law_says) (aCons (dCall 2 (g_is_dealing c) (aCons (dVar 0) (aCons (dVar 6) aNil))) (aCons (dCall 3 (g_law_is_dealing) (aCons (dVar 1) (aCons (dVar 2) (aCons (dVar 6) aNil)))) aNil))))))
 (sRet (dC (.bl false)))
 sNext)
 (sRet (dAndV (dCall 2 (g_law_says) (aCons (dCall 2 (g_is_dealing c) (aCons (dVar 0) (aCons (dN listD (aCons (dVar 3) aNil)) aNil))) (aCons (dVar 5) aNil))) (dCall 3 (g_law_is_pool c) (aCons (dVar 0) (aCons (dVar 1) (aCons (dVar 2) aNil))))))))))))))
def g_law_asks_dealing (c : Cs) : PF := runG 6 (t_law_asks_dealing c)
def t_law_asks_lot (c : Cs) : SF :=
 (sSeq (sAsgO (dN listD (aCons (dVar 2) aNil)) 4)
 (sSeq (sAsg (dCall 2 (g_law_is_lot) (aCons (dVar 2) (aCons (dVar 1) aNil))) (dName 5))
 (sSeq (sIf (peekT (dOrT (dNotT (tDt truD (dCall 2 (g_law_says) (aCons (dCall 2 (g_is_lot c) (aCons (dVar 0) (aCons (dVar 4) aNil))) (aCons (dVar 5) aNil))))) (tDt blD (d2 neD (dN Zg.reprD (aCons (dVar 4) aNil)) (dN Zg.reprD (aCons (dVar 2) aNil))))))
 (sRet (dC (.bl false)))
 sNext)
 (sSeq (sApp 4 (dVar 3))
 (sSeq (sIf (peekT (dNotT (tDt truD (dCall 2 (g_law_says) (aCons (dCall 2 (g_is_lot c) (aCons (dVar 0) (aCons (dVar 4) aNil))) (aCons (dCall 2 (g_law_is_lot) (aCons (d2 addD (dVar 2) (dN mkLst (aCons (dVar 3) aNil))) (aCons (dVar 1) aNil))) aNil))))))
 (sRet (dC (.bl false)))
 sNext)
 (sRet (dCall 2 (g_law_says) (aCons (dCall 2 (g_is_lot c) (aCons (dVar 0) (aCons (dN listD (aCons (dVar 2) aNil)) aNil))) (aCons (dVar 5) aNil)))))))))
def g_law_asks_lot (c : Cs) : PF := runG 2 (t_law_asks_lot c)
def t_law (c : Cs) : SF :=
 (sSeq (sAsg (dCall 2 (g_law_draws) (aCons (dCall 2 (g_law_cell) (aCons (dVar 0) (aCons (dC (.int 1)) aNil))) (aCons (dN mkLst (aCons (dC (.int 6)) (aCons (dC (.int 4)) (aCons (dC (.int 840)) (aCons (dC (.int 36000)) (aCons (dC (.int 2)) (aCons (dC (.int 8)) (aCons (dC (.int 840)) (aCons (dC (.int 36000)) aNil))))))))) aNil))) (dName 1))
 (sSeq (sIf (tDt blD (d2 eqD (d2 ixD (dVar 1) (dC (.int 0))) (dC (.int 1))))
 (sAsg (dCall 2 (g_law_wide_pool) (aCons (dCall 2 (g_law_cell) (aCons (dVar 0) (aCons (dC (.int 0)) aNil))) (aCons (dC (.int 24)) aNil))) (dgTup 2 (dgCons (dName 2) (dgCons (dName 3) dgNil))))
 (sAsg (dCall 2 (g_law_pool) (aCons (dCall 2 (g_law_cell) (aCons (dVar 0) (aCons (dC (.int 0)) aNil))) (aCons (dC (.int 7)) aNil))) (dgTup 2 (dgCons (dName 2) (dgCons (dName 3) dgNil)))))
 (sSeq (sAsg (dMake c.Pool 2 (g_Pool_init c) (aCons (dN listD (aCons (dVar 2) aNil)) (aCons (dLc (dItems (dVar 3)) (dName 11) dYes (dN listD (aCons (dVar 11) aNil)) [11]) aNil))) (dName 4))
 (sSeq (sAsg (dCall 2 (g_law_draws) (aCons (dCall 2 (g_law_cell) (aCons (dVar 0) (aCons (dC (.int 2)) aNil))) (aCons (d2 addD (d2 mulD (dN mkLst (aCons (dC (.int 300)) aNil)) (dC (.int 24))) (d2 mulD (dN mkLst (aCons (dC (.int 36000)) aNil)) (dC (.int 24)))) aNil))) (dName 5))
 (sSeq (sAsg (dCall 4 (g_law_drawn_dealing) (aCons (dVar 2) (aCons (dVar 3) (aCons (dVar 1) (aCons (dVar 5) aNil))))) (dName 6))
 (sSeq (sIf (dNotT (tDt truD (dCall 5 (g_law_asks_dealing c) (aCons (dVar 4) (aCons (dVar 2) (aCons (dVar 3) (aCons (dVar 6) (aCons (dVar 1) aNil))))))))
 (sRet (dC (.bl false)))
 sNext)
 (sSeq (sAsg (dN lenD (aCons (dVar 3) aNil)) (dName 7))
 (sSeq (sAsg (dCall 2 (g_law_draws) (aCons (dCall 2 (g_law_cell) (aCons (dVar 0) (aCons (dC (.int 3)) aNil))) (aCons (dN mkLst (aCons (dC (.int 16777216)) (aCons (dC (.int 10)) (aCons (dC (.int 840)) (aCons (dC (.int 840)) (aCons (dC (.int 840)) aNil)))))) aNil))) (dName 8))
 (sSeq (sAsg (dCall 2 (g_law_wide_bits) (aCons (d2 ixD (dVar 8) (dC (.int 0))) (aCons (dVar 7) aNil))) (dName 9))
 (sSeq (sIf (dNotT (tDt truD (dCall 4 (g_law_asks_lot c) (aCons (dVar 4) (aCons (dVar 7) (aCons (dVar 9) (aCons (d2 modD (dN intD (aCons (d2 ixD (dVar 8) (dC (.int 4))) aNil)) (d2 addD (dVar 7) (dC (.int 2)))) aNil)))))))
 (sRet (dC (.bl false)))
 sNext)
 (sSeq (sAsg (dCall 5 (g_law_spoilt) (aCons (dVar 9) (aCons (dVar 7) (aCons (d2 ixD (dVar 8) (dC (.int 1))) (aCons (d2 ixD (dVar 8) (dC (.int 2))) (aCons (d2 ixD (dVar 8) (dC (.int 3))) aNil)))))) (dName 10))
 (sRet (dAndV (dCall 4 (g_law_asks_lot c) (aCons (dVar 4) (aCons (dVar 7) (aCons (dVar 10) (aCons (d2 modD (dN intD (aCons (d2 ixD (dVar 8) (dC (.int 4))) aNil)) (d2 addD (dVar 7) (dC (.int 2)))) aNil))))) (dCall 3 (g_law_is_pool c) (aCons (dVar 4) (aCons (dVar 2) (aCons (dVar 3) aNil)))))))))))))))))
def g_law (c : Cs) : PF := runG 11 (t_law c)
structure Txt (K : PySem.W.Frag) (mg : Str → Option Value) where
  c : Cs
  m_abs : mg "abs" = none
  m_all : mg "all" = none
  m_bool : mg "bool" = none
  m_enumerate : mg "enumerate" = none
  m_int : mg "int" = none
  m_isinstance : mg "isinstance" = none
  m_len : mg "len" = none
  m_list : mg "list" = none
  m_max : mg "max" = none
  m_min : mg "min" = none
  m_range : mg "range" = none
  m_repr : mg "repr" = none
  m_set : mg "set" = none
  m_sorted : mg "sorted" = none
  m_tuple : mg "tuple" = none
  cl_Pool : Cls K c.Pool
  c_Pool : mg "Pool" = some (.ref c.Pool)
  n_Pool_caps : NoAttr K c.Pool "caps"
  n_Pool_holders : NoAttr K c.Pool "holders"
  n_Pool_seats : NoAttr K c.Pool "seats"
  n_Pool_pieces : NoAttr K c.Pool "pieces"
  f_are_different : Addr
  fd_are_different : FuncData
  F_are_different : Fun K "are_different" "are_different" s_are_different f_are_different fd_are_different
  b_are_different : Binds K fd_are_different ["numbers", "limit"] []
  g_are_different : mg "are_different" = some (.ref f_are_different)
  f_are_ascending : Addr
  fd_are_ascending : FuncData
  F_are_ascending : Fun K "are_ascending" "are_ascending" s_are_ascending f_are_ascending fd_are_ascending
  b_are_ascending : Binds K fd_are_ascending ["numbers", "limit"] []
  g_are_ascending : mg "are_ascending" = some (.ref f_are_ascending)
  f_Pool_init : Addr
  fd_Pool_init : FuncData
  F_Pool_init : Fun K "__init__" "Pool.__init__" s_Pool_init f_Pool_init fd_Pool_init
  b_Pool_init : Binds K fd_Pool_init ["self", "caps", "holders"] []
  M_Pool : Mk K c.Pool f_Pool_init
  f_ordered_holders : Addr
  fd_ordered_holders : FuncData
  F_ordered_holders : Fun K "ordered_holders" "ordered_holders" s_ordered_holders f_ordered_holders fd_ordered_holders
  b_ordered_holders : Binds K fd_ordered_holders ["holders", "seats"] []
  g_ordered_holders : mg "ordered_holders" = some (.ref f_ordered_holders)
  f_pair_room : Addr
  fd_pair_room : FuncData
  F_pair_room : Fun K "pair_room" "pair_room" s_pair_room f_pair_room fd_pair_room
  b_pair_room : Binds K fd_pair_room ["pool", "pair"] []
  g_pair_room : mg "pair_room" = some (.ref f_pair_room)
  f_holds_pair : Addr
  fd_holds_pair : FuncData
  F_holds_pair : Fun K "holds_pair" "holds_pair" s_holds_pair f_holds_pair fd_holds_pair
  b_holds_pair : Binds K fd_holds_pair ["pool", "piece", "pair"] []
  g_holds_pair : mg "holds_pair" = some (.ref f_holds_pair)
  f_is_dealing : Addr
  fd_is_dealing : FuncData
  F_is_dealing : Fun K "is_dealing" "is_dealing" s_is_dealing f_is_dealing fd_is_dealing
  b_is_dealing : Binds K fd_is_dealing ["pool", "dealing"] []
  g_is_dealing : mg "is_dealing" = some (.ref f_is_dealing)
  f_is_lot : Addr
  fd_is_lot : FuncData
  F_is_lot : Fun K "is_lot" "is_lot" s_is_lot f_is_lot fd_is_lot
  b_is_lot : Binds K fd_is_lot ["pool", "lot"] []
  g_is_lot : mg "is_lot" = some (.ref f_is_lot)
  f_law_cell : Addr
  fd_law_cell : FuncData
  F_law_cell : Fun K "_law_cell" "_law_cell" s_law_cell f_law_cell fd_law_cell
  b_law_cell : Binds K fd_law_cell ["_law_script", "_law_k"] []
  g_law_cell : mg "_law_cell" = some (.ref f_law_cell)
  f_law_draws : Addr
  fd_law_draws : FuncData
  F_law_draws : Fun K "_law_draws" "_law_draws" s_law_draws f_law_draws fd_law_draws
  b_law_draws : Binds K fd_law_draws ["_law_cell_here", "_law_sizes"] []
  g_law_draws : mg "_law_draws" = some (.ref f_law_draws)
  f_law_bits : Addr
  fd_law_bits : FuncData
  F_law_bits : Fun K "_law_bits" "_law_bits" s_law_bits f_law_bits fd_law_bits
  b_law_bits : Binds K fd_law_bits ["_law_mask", "_law_count"] []
  g_law_bits : mg "_law_bits" = some (.ref f_law_bits)
  f_law_pairs : Addr
  fd_law_pairs : FuncData
  F_law_pairs : Fun K "_law_pairs" "_law_pairs" s_law_pairs f_law_pairs fd_law_pairs
  b_law_pairs : Binds K fd_law_pairs ["_law_seats"] []
  g_law_pairs : mg "_law_pairs" = some (.ref f_law_pairs)
  f_law_pool : Addr
  fd_law_pool : FuncData
  F_law_pool : Fun K "_law_pool" "_law_pool" s_law_pool f_law_pool fd_law_pool
  b_law_pool : Binds K fd_law_pool ["_law_cell_here", "_law_most"] []
  g_law_pool : mg "_law_pool" = some (.ref f_law_pool)
  f_law_wide_bits : Addr
  fd_law_wide_bits : FuncData
  F_law_wide_bits : Fun K "_law_wide_bits" "_law_wide_bits" s_law_wide_bits f_law_wide_bits fd_law_wide_bits
  b_law_wide_bits : Binds K fd_law_wide_bits ["_law_mask", "_law_count"] []
  g_law_wide_bits : mg "_law_wide_bits" = some (.ref f_law_wide_bits)
  f_law_wide_pool : Addr
  fd_law_wide_pool : FuncData
  F_law_wide_pool : Fun K "_law_wide_pool" "_law_wide_pool" s_law_wide_pool f_law_wide_pool fd_law_wide_pool
  b_law_wide_pool : Binds K fd_law_wide_pool ["_law_cell_here", "_law_most"] []
  g_law_wide_pool : mg "_law_wide_pool" = some (.ref f_law_wide_pool)
  f_law_is_integer : Addr
  fd_law_is_integer : FuncData
  F_law_is_integer : Fun K "_law_is_integer" "_law_is_integer" s_law_is_integer f_law_is_integer fd_law_is_integer
  b_law_is_integer : Binds K fd_law_is_integer ["_law_actual"] []
  g_law_is_integer : mg "_law_is_integer" = some (.ref f_law_is_integer)
  f_law_is_pool : Addr
  fd_law_is_pool : FuncData
  F_law_is_pool : Fun K "_law_is_pool" "_law_is_pool" s_law_is_pool f_law_is_pool fd_law_is_pool
  b_law_is_pool : Binds K fd_law_is_pool ["_law_pool_here", "_law_caps", "_law_holders"] []
  g_law_is_pool : mg "_law_is_pool" = some (.ref f_law_is_pool)
  f_law_is_dealing : Addr
  fd_law_is_dealing : FuncData
  F_law_is_dealing : Fun K "_law_is_dealing" "_law_is_dealing" s_law_is_dealing f_law_is_dealing fd_law_is_dealing
  b_law_is_dealing : Binds K fd_law_is_dealing ["_law_caps", "_law_holders", "_law_dealing"] []
  g_law_is_dealing : mg "_law_is_dealing" = some (.ref f_law_is_dealing)
  f_law_says : Addr
  fd_law_says : FuncData
  F_law_says : Fun K "_law_says" "_law_says" s_law_says f_law_says fd_law_says
  b_law_says : Binds K fd_law_says ["_law_actual", "_law_due"] []
  g_law_says : mg "_law_says" = some (.ref f_law_says)
  f_law_filled : Addr
  fd_law_filled : FuncData
  F_law_filled : Fun K "_law_filled" "_law_filled" s_law_filled f_law_filled fd_law_filled
  b_law_filled : Binds K fd_law_filled ["_law_caps", "_law_holders", "_law_drawn"] []
  g_law_filled : mg "_law_filled" = some (.ref f_law_filled)
  f_law_entry : Addr
  fd_law_entry : FuncData
  F_law_entry : Fun K "_law_entry" "_law_entry" s_law_entry f_law_entry fd_law_entry
  b_law_entry : Binds K fd_law_entry ["_law_caps", "_law_dealing", "_law_number"] []
  g_law_entry : mg "_law_entry" = some (.ref f_law_entry)
  f_law_is_lot : Addr
  fd_law_is_lot : FuncData
  F_law_is_lot : Fun K "_law_is_lot" "_law_is_lot" s_law_is_lot f_law_is_lot fd_law_is_lot
  b_law_is_lot : Binds K fd_law_is_lot ["_law_lot", "_law_many"] []
  g_law_is_lot : mg "_law_is_lot" = some (.ref f_law_is_lot)
  f_law_spoilt : Addr
  fd_law_spoilt : FuncData
  F_law_spoilt : Fun K "_law_spoilt" "_law_spoilt" s_law_spoilt f_law_spoilt fd_law_spoilt
  b_law_spoilt : Binds K fd_law_spoilt ["_law_lot", "_law_many", "_law_way", "_law_spot", "_law_pick"] []
  g_law_spoilt : mg "_law_spoilt" = some (.ref f_law_spoilt)
  f_law_drawn_dealing : Addr
  fd_law_drawn_dealing : FuncData
  F_law_drawn_dealing : Fun K "_law_drawn_dealing" "_law_drawn_dealing" s_law_drawn_dealing f_law_drawn_dealing fd_law_drawn_dealing
  b_law_drawn_dealing : Binds K fd_law_drawn_dealing ["_law_caps", "_law_holders", "_law_drawn", "_law_more"] []
  g_law_drawn_dealing : mg "_law_drawn_dealing" = some (.ref f_law_drawn_dealing)
  f_law_asks_dealing : Addr
  fd_law_asks_dealing : FuncData
  F_law_asks_dealing : Fun K "_law_asks_dealing" "_law_asks_dealing" s_law_asks_dealing f_law_asks_dealing fd_law_asks_dealing
  b_law_asks_dealing : Binds K fd_law_asks_dealing ["_law_pool_here", "_law_caps", "_law_holders", "_law_dealing", "_law_drawn"] []
  g_law_asks_dealing : mg "_law_asks_dealing" = some (.ref f_law_asks_dealing)
  f_law_asks_lot : Addr
  fd_law_asks_lot : FuncData
  F_law_asks_lot : Fun K "_law_asks_lot" "_law_asks_lot" s_law_asks_lot f_law_asks_lot fd_law_asks_lot
  b_law_asks_lot : Binds K fd_law_asks_lot ["_law_pool_here", "_law_many", "_law_lot", "_law_extra"] []
  g_law_asks_lot : mg "_law_asks_lot" = some (.ref f_law_asks_lot)
  f_law : Addr
  fd_law : FuncData
  F_law : Fun K "law" "law" s_law f_law fd_law
  b_law : Binds K fd_law ["_law_script"] []
  g_law : mg "law" = some (.ref f_law)
section
variable {P : Program} {w : World} {K : PySem.W.Frag} {mg : Str → Option Value} {base : Heap}
theorem sc_are_different : FnScope N_are_different ["numbers", "limit"] (defScope s_are_different) := ⟨rfl, rfl, rfl, by decide +kernel, rfl, by decide +kernel, by decide +kernel⟩
theorem ok_are_different (T : Txt K mg) : FnOk P w K mg base CX0 1 T.f_are_different T.fd_are_different ["numbers", "limit"] (spG K 2 (g_are_different)) := by
  refine fnG (m := 1) T.F_are_different sc_are_different rfl rfl (fun cdv A outer s H E hr => ?_)
  have hu := hr.units
  refine ⟨_, (pss_cons (ps_if (pt_not (pt_truth (pe_callB (cr_all rfl) (by rfl) T.m_all bt_all (pa_cons (pe_lc (own := [("number", 2)]) (g := (gName 2)) (tt := tYes) (te := (tChain _ _ (tC (.int 0)) (tVar 2) (tVar 1))) rfl sc_are_different.nd (pi_seq (pv 0)) (blkOk_by (N := N_are_different) (sc := defScope s_are_different) (by decide +kernel)) (fun _ _ _ _ _ => (pg_name (i := 2) sc_are_different.nd rfl (by first | exact Or.inl rfl | exact Or.inr rfl))) (fun _ _ _ _ _ => pts_nil) (fun _ _ _ _ _ => (pe_chain op_le op_lt pe_int (pv 2) (pv 1)))) pa_nil)) (fun _ => rfl)))
 (pss_one (ps_ret pe_bl))
 pss_nil)
 (pss_one (ps_ret (pe_cmpR (op_eqD hu) (pe_lenSetA (by rfl) T.m_len (by rfl) T.m_set (pv 0)) (pe_callB call_lenA (by rfl) T.m_len bt_len (pa_cons (pv 0) pa_nil)) (nomark _))))), ?_⟩
  exact ((sr_seq (sr_if (tr_not (tr_tru (er_n rc_all (ar_cons (er_of_eo (eo_lc (vs := [2]) (ir_seq (er_var 0)) (grc_name (j := 2) (by decide)) tr_yes (er_chain rr_le rr_lt er_int (er_var 2) (er_var 1)))) ar_nil))))
 (sr_ret er_bl)
 sr_next)
 (sr_ret (er_2 rr_eq (er_lenSet (er_var 0)) (er_n rc_len (ar_cons (er_var 0) ar_nil))))) : SR K _ (t_are_different))
theorem sc_are_ascending : FnScope N_are_ascending ["numbers", "limit"] (defScope s_are_ascending) := ⟨rfl, rfl, rfl, by decide +kernel, rfl, by decide +kernel, by decide +kernel⟩
theorem ok_are_ascending (T : Txt K mg) : FnOk P w K mg base CX0 1 T.f_are_ascending T.fd_are_ascending ["numbers", "limit"] (spG K 2 (g_are_ascending)) := by
  refine fnG (m := 2) T.F_are_ascending sc_are_ascending rfl rfl (fun cdv A outer s H E hr => ?_)
  have hu := hr.units
  refine ⟨_, (pss_cons (ps_set (i := 2) sc_are_ascending.nd rfl (by first | exact Or.inl rfl | exact Or.inr rfl) pe_int)
 (pss_cons (ps_for PassesOwn.never rfl (pi_seq (pv 0)) (pg_name (i := 3) sc_are_ascending.nd rfl (by first | exact Or.inl rfl | exact Or.inr rfl))
 (pss_cons (ps_if (pt_not (pt_chain op_le op_lt (pv 2) (pv 3) (pv 1)))
 (pss_one (ps_ret pe_bl))
 pss_nil)
 (pss_one (ps_set (i := 2) sc_are_ascending.nd rfl (by first | exact Or.inl rfl | exact Or.inr rfl) (pe_op op_addA (pv 3) pe_int)))))
 (pss_one (ps_ret pe_bl)))), ?_⟩
  exact ((sr_seq (sr_asg er_int (gr'_name 2))
 (sr_seq (sr_for (ir_seq (er_var 0)) (gr'_name 3)
 (sr_seq (sr_if (tr_not (tr_test (er_chain rr_le rr_lt (er_var 2) (er_var 3) (er_var 1))))
 (sr_ret er_bl)
 sr_next)
 (sr_asg (er_2 rr_add (er_var 3) er_int) (gr'_name 2))))
 (sr_ret er_bl))) : SR K _ (t_are_ascending))
theorem sc_ordered_holders : FnScope N_ordered_holders ["holders", "seats"] (defScope s_ordered_holders) := ⟨rfl, rfl, rfl, by decide +kernel, rfl, by decide +kernel, by decide +kernel⟩
theorem ok_ordered_holders (T : Txt K mg) : FnOk P w K mg base CX0 2 T.f_ordered_holders T.fd_ordered_holders ["holders", "seats"] (spG K 2 (g_ordered_holders)) := by
  have G_are_different := ok_are_different (P := P) (w := w) (base := base) T
  refine fnG (m := 2) T.F_ordered_holders sc_ordered_holders rfl rfl (fun cdv A outer s H E hr => ?_)
  have hu := hr.units
  refine ⟨_, (pss_cons (ps_for PassesOwn.never rfl (TS.pi_enumA (by rfl) T.m_enumerate (pa_cons (pv 0) pa_nil)) (pg_tup rfl (pgs_cons (pg_name (i := 2) sc_ordered_holders.nd rfl (by first | exact Or.inl rfl | exact Or.inr rfl)) (pgs_cons (pg_name (i := 3) sc_ordered_holders.nd rfl (by first | exact Or.inl rfl | exact Or.inr rfl)) pgs_nil)))
 (pss_one (ps_if (pt_not (pt_truth (pe_call G_are_different (hr.mono (by decide)) (by rfl) T.g_are_different T.F_are_different.kp T.b_are_different .nil pass0 (pa_cons (pv 3) (pa_cons (pv 1) pa_nil))) (fun _ => rfl)))
 (pss_one ps_never)
 pss_nil)))
 (pss_one (ps_ret (pe_callTy call_tuple_of (by rfl) T.m_tuple bt_tuple (pa_cons (pe_lc (own := [("row", 3)]) (g := (gName 3)) (tt := tYes) (te := (tCB (rTupleOf K) (tCons (tCB (rSortedA K) (tCons (tVar 3) tNil)) tNil))) rfl sc_ordered_holders.nd (pi_seq (pv 0)) (blkOk_by (N := N_ordered_holders) (sc := defScope s_ordered_holders) (by decide +kernel)) (fun _ _ _ _ _ => (pg_name (i := 3) sc_ordered_holders.nd rfl (by first | exact Or.inl rfl | exact Or.inr rfl))) (fun _ _ _ _ _ => pts_nil) (fun _ _ _ _ _ => (pe_callTy call_tuple_of (by rfl) T.m_tuple bt_tuple (pa_cons (pe_callB call_sortedA (by rfl) T.m_sorted bt_sorted (pa_cons (pv 3) pa_nil)) pa_nil)))) pa_nil))))), ?_⟩
  exact ((sr_seq (sr_for (ir_enum (ar_cons (er_var 0) ar_nil)) (gr'_tup (n := 2) (grs'_cons (gr'_name 2) (grs'_cons (gr'_name 3) grs'_nil)))
 (sr_if (tr_not (tr_tru (er_call (ar_cons (er_var 3) (ar_cons (er_var 1) ar_nil)))))
 sr_never
 sr_next))
 (sr_ret (er_n rc_tuple (ar_cons (er_of_eo (eo_lc (vs := [3]) (ir_seq (er_var 0)) (grc_name (j := 3) (by decide)) tr_yes (er_n rc_tuple (ar_cons (er_n rc_sorted (ar_cons (er_var 3) ar_nil)) ar_nil)))) ar_nil)))) : SR K _ (t_ordered_holders))
theorem sc_Pool_init : FnScope N_Pool_init ["self", "caps", "holders"] (defScope s_Pool_init) := ⟨rfl, rfl, rfl, by decide +kernel, rfl, by decide +kernel, by decide +kernel⟩
theorem ok_Pool_init (T : Txt K mg) : FnOk P w K mg base CX0 3 T.f_Pool_init T.fd_Pool_init ["self", "caps", "holders"] (spI K T.c.Pool 2 (g_Pool_init T.c)) := by
  have G_ordered_holders := ok_ordered_holders (P := P) (w := w) (base := base) T
  refine initG (m := 0) T.F_Pool_init sc_Pool_init rfl rfl (fun cdv A outer s H E hr => ?_)
  have hu := hr.units
  refine ⟨_, (pss_cons (ps_if ((pw_or (pt_cmpR (op_eqD hu) (pe_callB call_lenA (by rfl) T.m_len bt_len (pa_cons (pv 1) pa_nil)) pe_int (nomark _)) (pw_or1 (pt_cmpR op_lt (pe_callB (call_minA rfl) (by rfl) T.m_min bt_min (pa_cons (pv 1) pa_nil)) pe_int (nomark _))))).pt
 (pss_one ps_never)
 pss_nil)
 (pss_cons (ps_fld (pv 0) (pe_callTy call_tuple_of (by rfl) T.m_tuple bt_tuple (pa_cons (pv 1) pa_nil)) rfl)
 (pss_cons (ps_fld (pv 0) (pe_call G_ordered_holders (hr.mono (by decide)) (by rfl) T.g_ordered_holders T.F_ordered_holders.kp T.b_ordered_holders .nil pass0 (pa_cons (pv 2) (pa_cons (pe_callB call_lenA (by rfl) T.m_len bt_len (pa_cons (pv 1) pa_nil)) pa_nil))) rfl)
 (pss_cons (ps_fld (pv 0) (pe_callB call_lenA (by rfl) T.m_len bt_len (pa_cons (pe_fld (pv 0) rfl) pa_nil)) rfl)
 (pss_one (ps_fld (pv 0) (pe_callB call_lenA (by rfl) T.m_len bt_len (pa_cons (pe_fld (pv 0) rfl) pa_nil)) rfl)))))), ?_⟩
  exact ((sr_seq (sr_if (tr_or (tr_test (er_2 rr_eq (er_n rc_len (ar_cons (er_var 1) ar_nil)) er_int)) (tr_test (er_2 rr_lt (er_n rc_min (ar_cons (er_var 1) ar_nil)) er_int)))
 sr_never
 sr_next)
 (sr_seq (sr_fld T.cl_Pool T.n_Pool_caps (er_n rc_tuple (ar_cons (er_var 1) ar_nil)))
 (sr_seq (sr_fld T.cl_Pool T.n_Pool_holders (er_call (ar_cons (er_var 2) (ar_cons (er_n rc_len (ar_cons (er_var 1) ar_nil)) ar_nil))))
 (sr_seq (sr_fld T.cl_Pool T.n_Pool_seats (er_peekF (er_n rc_len (ar_cons (er_fld T.cl_Pool T.n_Pool_caps (er_var 0)) ar_nil))))
 (sr_fld T.cl_Pool T.n_Pool_pieces (er_peekF (er_n rc_len (ar_cons (er_fld T.cl_Pool T.n_Pool_holders (er_var 0)) ar_nil)))))))) : SR K _ (t_Pool_init T.c))
theorem sc_pair_room : FnScope N_pair_room ["pool", "pair"] (defScope s_pair_room) := ⟨rfl, rfl, rfl, by decide +kernel, rfl, by decide +kernel, by decide +kernel⟩
theorem ok_pair_room (T : Txt K mg) : FnOk P w K mg base CX0 1 T.f_pair_room T.fd_pair_room ["pool", "pair"] (spG K 2 (g_pair_room T.c)) := by
  refine fnG (m := 2) T.F_pair_room sc_pair_room rfl rfl (fun cdv A outer s H E hr => ?_)
  have hu := hr.units
  refine ⟨_, (pss_cons (ps_asg (pv 1) (pg_tup rfl (pgs_cons (pg_name (i := 2) sc_pair_room.nd rfl (by first | exact Or.inl rfl | exact Or.inr rfl)) (pgs_cons (pg_name (i := 3) sc_pair_room.nd rfl (by first | exact Or.inl rfl | exact Or.inr rfl)) pgs_nil))))
 (pss_one (ps_ret (pe_callB (call_minA rfl) (by rfl) T.m_min bt_min (pa_cons (pe_ix ix_seq (pe_fld (pv 0) rfl) (pv 2) (fun _ _ => rfl)) (pa_cons (pe_ix ix_seq (pe_fld (pv 0) rfl) (pv 3) (fun _ _ => rfl)) pa_nil)))))), ?_⟩
  exact ((sr_seq (sr_asg (er_var 1) (gr'_tup (n := 2) (grs'_cons (gr'_name 2) (grs'_cons (gr'_name 3) grs'_nil))))
 (sr_ret (er_n rc_min (ar_cons (er_2 rr_ix (er_fld T.cl_Pool T.n_Pool_caps (er_var 0)) (er_var 2)) (ar_cons (er_2 rr_ix (er_fld T.cl_Pool T.n_Pool_caps (er_var 0)) (er_var 3)) ar_nil))))) : SR K _ (t_pair_room T.c))
theorem sc_holds_pair : FnScope N_holds_pair ["pool", "piece", "pair"] (defScope s_holds_pair) := ⟨rfl, rfl, rfl, by decide +kernel, rfl, by decide +kernel, by decide +kernel⟩
theorem ok_holds_pair (T : Txt K mg) : FnOk P w K mg base CX0 1 T.f_holds_pair T.fd_holds_pair ["pool", "piece", "pair"] (spG K 3 (g_holds_pair T.c)) := by
  refine fnG (m := 3) T.F_holds_pair sc_holds_pair rfl rfl (fun cdv A outer s H E hr => ?_)
  have hu := hr.units
  refine ⟨_, (pss_cons (ps_asg (pv 2) (pg_tup rfl (pgs_cons (pg_name (i := 3) sc_holds_pair.nd rfl (by first | exact Or.inl rfl | exact Or.inr rfl)) (pgs_cons (pg_name (i := 4) sc_holds_pair.nd rfl (by first | exact Or.inl rfl | exact Or.inr rfl)) pgs_nil))))
 (pss_cons (ps_set (i := 5) sc_holds_pair.nd rfl (by first | exact Or.inl rfl | exact Or.inr rfl) (pe_ix ix_seq (pe_fld (pv 0) rfl) (pv 1) (fun _ _ => rfl)))
 (pss_one (ps_ret (pe_and (pe_cmpR op_lt (pv 3) (pv 4) (nomark _)) (pe_and (pe_cmpR op_in_seq (pv 3) (pv 5) (by rfl)) (pe_one (pe_cmpR op_in_seq (pv 4) (pv 5) (by rfl))))))))), ?_⟩
  exact ((sr_seq (sr_asg (er_var 2) (gr'_tup (n := 2) (grs'_cons (gr'_name 3) (grs'_cons (gr'_name 4) grs'_nil))))
 (sr_seq (sr_asg (er_2 rr_ix (er_fld T.cl_Pool T.n_Pool_holders (er_var 0)) (er_var 1)) (gr'_name 5))
 (sr_ret (er_and (er_2 rr_lt (er_var 3) (er_var 4)) (er_and (er_2 rr_in (er_var 3) (er_var 5)) (er_2 rr_in (er_var 4) (er_var 5))))))) : SR K _ (t_holds_pair T.c))
theorem sc_is_dealing : FnScope N_is_dealing ["pool", "dealing"] (defScope s_is_dealing) := ⟨rfl, rfl, rfl, by decide +kernel, rfl, by decide +kernel, by decide +kernel⟩
theorem ok_is_dealing (T : Txt K mg) : FnOk P w K mg base CX0 2 T.f_is_dealing T.fd_is_dealing ["pool", "dealing"] (spG K 2 (g_is_dealing T.c)) := by
  have G_holds_pair := ok_holds_pair (P := P) (w := w) (base := base) T
  have G_pair_room := ok_pair_room (P := P) (w := w) (base := base) T
  refine fnG (m := 4) T.F_is_dealing sc_is_dealing rfl rfl (fun cdv A outer s H E hr => ?_)
  have hu := hr.units
  refine ⟨_, (pss_cons (ps_if (pt_cmpR (op_neD hu) (pe_callB call_lenA (by rfl) T.m_len bt_len (pa_cons (pv 1) pa_nil)) (pe_fld (pv 0) rfl) (nomark _))
 (pss_one (ps_ret pe_bl))
 pss_nil)
 (pss_cons (ps_set (i := 2) sc_is_dealing.nd rfl (by first | exact Or.inl rfl | exact Or.inr rfl) pe_dnewT)
 (pss_cons (ps_for PassesOwn.never rfl (TS.pi_enumA (by rfl) T.m_enumerate (pa_cons (pv 1) pa_nil)) (pg_tup rfl (pgs_cons (pg_name (i := 3) sc_is_dealing.nd rfl (by first | exact Or.inl rfl | exact Or.inr rfl)) (pgs_cons (pg_name (i := 4) sc_is_dealing.nd rfl (by first | exact Or.inl rfl | exact Or.inr rfl)) pgs_nil)))
 (pss_one (ps_if (pt_cmpR op_notN (pv 4) pe_non (nomark _))
 (pss_cons (ps_if (pt_not (pt_truth (pe_call G_holds_pair (hr.mono (by decide)) (by rfl) T.g_holds_pair T.F_holds_pair.kp T.b_holds_pair .nil pass0 (pa_cons (pv 0) (pa_cons (pv 3) (pa_cons (pv 4) pa_nil)))) (fun _ => rfl)))
 (pss_one (ps_ret pe_bl))
 pss_nil)
 (pss_one (ps_dput (hu1 hu) (pv 2) (pv 4) (pe_op op_addA (pe_dget2 (hu1 hu) (pv 2) (pv 4) pe_int ⟨rfl, rfl, rfl, rfl⟩) pe_int) rfl)))
 pss_nil)))
 (pss_one (ps_ret (pe_callB (cr_all rfl) (by rfl) T.m_all bt_all (pa_cons (pe_lock (pe_lc (own := [("pair", 4), ("count", 5)]) (g := (gTup K 2 (gCons (gName 4) (gCons (gName 5) gNil)))) (tt := tYes) (te := (tOp _ (tVar 5) (tCall (spG K 2 (g_pair_room T.c)) [] E0 (tCons (tVar 0) (tCons (tVar 4) tNil))))) rfl sc_is_dealing.nd (pi_itemsT (pv 2)) (blkOk_by (N := N_is_dealing) (sc := defScope s_is_dealing) (by decide +kernel)) (fun _ _ _ _ _ => (pg_tup rfl (pgs_cons (pg_name (i := 4) sc_is_dealing.nd rfl (by first | exact Or.inl rfl | exact Or.inr rfl)) (pgs_cons (pg_name (i := 5) sc_is_dealing.nd rfl (by first | exact Or.inl rfl | exact Or.inr rfl)) pgs_nil)))) (fun _ _ _ _ _ => pts_nil) (fun _ _ _ _ _ => (pe_cmpR op_le (pv 5) (pe_call G_pair_room (hr.mono (by decide)) (by rfl) T.g_pair_room T.F_pair_room.kp T.b_pair_room .nil pass0 (pa_cons (pv 0) (pa_cons (pv 4) pa_nil))) (nomark _))))) pa_nil))))))), ?_⟩
  exact ((sr_seq (sr_if (tr_test (er_2 rr_ne (er_n rc_len (ar_cons (er_var 1) ar_nil)) (er_fld T.cl_Pool T.n_Pool_pieces (er_var 0))))
 (sr_ret er_bl)
 sr_next)
 (sr_seq (sr_asgO eo_dnew)
 (sr_seq (sr_for (ir_enum (ar_cons (er_var 1) ar_nil)) (gr'_tup (n := 2) (grs'_cons (gr'_name 3) (grs'_cons (gr'_name 4) grs'_nil)))
 (sr_if (tr_test (er_2 rr_isnt (er_var 4) er_non))
 (sr_seq (sr_if (tr_not (tr_tru (er_call (ar_cons (er_var 0) (ar_cons (er_var 3) (ar_cons (er_var 4) ar_nil))))))
 (sr_ret er_bl)
 sr_next)
 (sr_put (i := 2) (er_var 4) (er_2 rr_add (er_dget (i := 2) (er_var 4) er_int) er_int)))
 sr_next))
 (sr_ret (er_n rc_all (ar_cons (er_lcIt (i := 2) (vs := [4, 5]) (grc_tup2 (i := 4) (j := 5) (by decide) (by decide)) tr_yes (er_2 rr_le (er_var 5) (er_call (ar_cons (er_var 0) (ar_cons (er_var 4) ar_nil))))) ar_nil)))))) : SR K _ (t_is_dealing T.c))
theorem sc_is_lot : FnScope N_is_lot ["pool", "lot"] (defScope s_is_lot) := ⟨rfl, rfl, rfl, by decide +kernel, rfl, by decide +kernel, by decide +kernel⟩
theorem ok_is_lot (T : Txt K mg) : FnOk P w K mg base CX0 2 T.f_is_lot T.fd_is_lot ["pool", "lot"] (spG K 2 (g_is_lot T.c)) := by
  have G_are_ascending := ok_are_ascending (P := P) (w := w) (base := base) T
  refine fnG (m := 0) T.F_is_lot sc_is_lot rfl rfl (fun cdv A outer s H E hr => ?_)
  have hu := hr.units
  refine ⟨_, (pss_one (ps_ret (pe_call G_are_ascending (hr.mono (by decide)) (by rfl) T.g_are_ascending T.F_are_ascending.kp T.b_are_ascending .nil pass0 (pa_cons (pv 1) (pa_cons (pe_fld (pv 0) rfl) pa_nil))))), ?_⟩
  exact ((sr_ret (er_call (ar_cons (er_var 1) (ar_cons (er_fld T.cl_Pool T.n_Pool_pieces (er_var 0)) ar_nil)))) : SR K _ (t_is_lot T.c))
theorem sc_law_cell : FnScope N_law_cell ["_law_script", "_law_k"] (defScope s_law_cell) := ⟨rfl, rfl, rfl, by decide +kernel, rfl, by decide +kernel, by decide +kernel⟩
theorem ok_law_cell (T : Txt K mg) : FnOk P w K mg base CX0 1 T.f_law_cell T.fd_law_cell ["_law_script", "_law_k"] (spG K 2 (g_law_cell)) := by
  refine fnG (m := 0) T.F_law_cell sc_law_cell rfl rfl (fun cdv A outer s H E hr => ?_)
  have hu := hr.units
  refine ⟨_, (pss_cons (ps_if (pt_cmpR op_lt (pv 1) (pe_callB call_lenA (by rfl) T.m_len bt_len (pa_cons (pv 0) pa_nil)) (nomark _))
 (pss_one (ps_ret (pe_ix ix_seq (pv 0) (pv 1) (fun _ _ => rfl))))
 pss_nil)
 (pss_one (ps_ret pe_int))), ?_⟩
  exact ((sr_seq (sr_if (tr_test (er_2 rr_lt (er_var 1) (er_n rc_len (ar_cons (er_var 0) ar_nil))))
 (sr_ret (er_2 rr_ix (er_var 0) (er_var 1)))
 sr_next)
 (sr_ret er_int)) : SR K _ (t_law_cell))
theorem sc_law_draws : FnScope N_law_draws ["_law_cell_here", "_law_sizes"] (defScope s_law_draws) := ⟨rfl, rfl, rfl, by decide +kernel, rfl, by decide +kernel, by decide +kernel⟩
theorem ok_law_draws (T : Txt K mg) : FnOk P w K mg base CX0 1 T.f_law_draws T.fd_law_draws ["_law_cell_here", "_law_sizes"] (spG K 2 (g_law_draws)) := by
  refine fnG (m := 6) T.F_law_draws sc_law_draws rfl rfl (fun cdv A outer s H E hr => ?_)
  have hu := hr.units
  refine ⟨_, (pss_cons (ps_set (i := 2) sc_law_draws.nd rfl (by first | exact Or.inl rfl | exact Or.inr rfl) (pe_callB call_abs (by rfl) T.m_abs bt_abs (pa_cons (pe_callTy call_int1 (by rfl) T.m_int bt_int (pa_cons (pv 0) pa_nil)) pa_nil)))
 (pss_cons (ps_set (i := 3) sc_law_draws.nd rfl (by first | exact Or.inl rfl | exact Or.inr rfl) (pe_cmpR op_ge (pv 2) (pe_op op_pow pe_int pe_int) (nomark _)))
 (pss_cons (ps_set (i := 4) sc_law_draws.nd rfl (by first | exact Or.inl rfl | exact Or.inr rfl) (pe_lst pa_nil))
 (pss_cons (ps_for PassesOwn.never rfl (pi_range1 (by rfl) T.m_range (pa_cons (pe_callB call_lenA (by rfl) T.m_len bt_len (pa_cons (pv 1) pa_nil)) pa_nil)) (pg_name (i := 5) sc_law_draws.nd rfl (by first | exact Or.inl rfl | exact Or.inr rfl))
 (pss_cons (ps_set (i := 6) sc_law_draws.nd rfl (by first | exact Or.inl rfl | exact Or.inr rfl) (pe_ix ix_seq (pv 1) (pv 5) (fun _ _ => rfl)))
 (pss_one (ps_if ((pw_and (pt_truth (pv 3) (fun _ => rfl)) (pw_and1 (pt_cmpR op_gt (pv 2) pe_int (nomark _))))).pt
 (pss_cons (ps_expr (pe_bm PySem.F.plainAttrs_list PySem.F.slot_list_append PySem.F.type_list_append mt_append (pv 4) (pa_cons (pe_op op_mod (pe_callTy call_int1 (by rfl) T.m_int bt_int (pa_cons (pv 2) pa_nil)) (pv 6)) pa_nil)))
 (pss_one (ps_set (i := 2) sc_law_draws.nd rfl (by first | exact Or.inl rfl | exact Or.inr rfl) (pe_op op_fdivW (pv 2) (pv 6)))))
 (pss_cons (ps_set (i := 7) sc_law_draws.nd rfl (by first | exact Or.inl rfl | exact Or.inr rfl) (pe_op op_mod (pe_callTy call_int1 (by rfl) T.m_int bt_int (pa_cons (pe_op op_addA (pe_op op_addA (pe_callB call_abs (by rfl) T.m_abs bt_abs (pa_cons (pe_callTy call_int1 (by rfl) T.m_int bt_int (pa_cons (pv 0) pa_nil)) pa_nil)) (pe_op op_mulA pe_int (pv 5))) pe_int) pa_nil)) pe_int))
 (pss_cons (ps_set (i := 7) sc_law_draws.nd rfl (by first | exact Or.inl rfl | exact Or.inr rfl) (pe_op op_mod (pe_callTy call_int1 (by rfl) T.m_int bt_int (pa_cons (pe_op op_mulA (pv 7) (pe_op op_addA (pv 7) pe_int)) pa_nil)) pe_int))
 (pss_cons (ps_set (i := 7) sc_law_draws.nd rfl (by first | exact Or.inl rfl | exact Or.inr rfl) (pe_op op_mod (pe_callTy call_int1 (by rfl) T.m_int bt_int (pa_cons (pe_op op_addA (pe_op op_mulA (pv 7) (pe_op op_addA (pv 7) pe_int)) (pe_op op_mulA pe_int (pv 5))) pa_nil)) pe_int))
 (pss_one (ps_expr (pe_bm PySem.F.plainAttrs_list PySem.F.slot_list_append PySem.F.type_list_append mt_append (pv 4) (pa_cons (pe_op op_mod (pe_callTy call_int1 (by rfl) T.m_int bt_int (pa_cons (pe_op op_fdivW (pv 7) pe_int) pa_nil)) (pv 6)) pa_nil)))))))))))
 (pss_one (ps_ret (pv 4))))))), ?_⟩
  exact ((sr_seq (sr_asg (er_n rc_abs (ar_cons (er_n rc_int (ar_cons (er_var 0) ar_nil)) ar_nil)) (gr'_name 2))
 (sr_seq (sr_asg (er_2 rr_ge (er_var 2) (er_2 rr_pow er_int er_int)) (gr'_name 3))
 (sr_seq (sr_asgO (eo_lst ar_nil))
 (sr_seq (sr_for (ir_rng1 (ar_cons (er_n rc_len (ar_cons (er_var 1) ar_nil)) ar_nil)) (gr'_name 5)
 (sr_seq (sr_asg (er_2 rr_ix (er_var 1) (er_var 5)) (gr'_name 6))
 (sr_if (tr_and (tr_tru (er_var 3)) (tr_test (er_2 rr_gt (er_var 2) er_int)))
 (sr_seq (sr_app (i := 4) (er_2 rr_mod (er_n rc_int (ar_cons (er_var 2) ar_nil)) (er_var 6)))
 (sr_asg (er_2 rr_fdiv (er_var 2) (er_var 6)) (gr'_name 2)))
 (sr_seq (sr_asg (er_2 rr_mod (er_n rc_int (ar_cons (er_2 rr_add (er_2 rr_add (er_n rc_abs (ar_cons (er_n rc_int (ar_cons (er_var 0) ar_nil)) ar_nil)) (er_2 rr_mul er_int (er_var 5))) er_int) ar_nil)) er_int) (gr'_name 7))
 (sr_seq (sr_asg (er_2 rr_mod (er_n rc_int (ar_cons (er_2 rr_mul (er_var 7) (er_2 rr_add (er_var 7) er_int)) ar_nil)) er_int) (gr'_name 7))
 (sr_seq (sr_asg (er_2 rr_mod (er_n rc_int (ar_cons (er_2 rr_add (er_2 rr_mul (er_var 7) (er_2 rr_add (er_var 7) er_int)) (er_2 rr_mul er_int (er_var 5))) ar_nil)) er_int) (gr'_name 7))
 (sr_app (i := 4) (er_2 rr_mod (er_n rc_int (ar_cons (er_2 rr_fdiv (er_var 7) er_int) ar_nil)) (er_var 6)))))))))
 (sr_retV 4))))) : SR K _ (t_law_draws))
theorem sc_law_bits : FnScope N_law_bits ["_law_mask", "_law_count"] (defScope s_law_bits) := ⟨rfl, rfl, rfl, by decide +kernel, rfl, by decide +kernel, by decide +kernel⟩
theorem ok_law_bits (T : Txt K mg) : FnOk P w K mg base CX0 1 T.f_law_bits T.fd_law_bits ["_law_mask", "_law_count"] (spG K 2 (g_law_bits)) := by
  refine fnG (m := 1) T.F_law_bits sc_law_bits rfl rfl (fun cdv A outer s H E hr => ?_)
  have hu := hr.units
  refine ⟨_, (pss_one (ps_ret (pe_lc (own := [("_law_k", 2)]) (g := (gName 2)) (tt := (tTest (tOp (rEqD K) (tOp _ (tCB _ (tCons (tOp _ (tVar 0) (tOp (rIx K) (tTup (tCons (tC (.int 1)) (tCons (tC (.int 2)) (tCons (tC (.int 4)) (tCons (tC (.int 8)) (tCons (tC (.int 16)) (tCons (tC (.int 32)) (tCons (tC (.int 64)) tNil)))))))) (tVar 2))) tNil)) (tC (.int 2))) (tC (.int 1))))) (te := (tVar 2)) rfl sc_law_bits.nd (pi_range1 (by rfl) T.m_range (pa_cons (pv 1) pa_nil)) (blkOk_by (N := N_law_bits) (sc := defScope s_law_bits) (by decide +kernel)) (fun _ _ _ _ _ => (pg_name (i := 2) sc_law_bits.nd rfl (by first | exact Or.inl rfl | exact Or.inr rfl))) (fun _ _ _ _ _ => (pts_one (pt_cmpR (op_eqD hu) (pe_op op_mod (pe_callTy call_int1 (by rfl) T.m_int bt_int (pa_cons (pe_op op_fdivW (pv 0) (pe_ix ix_seq (pe_tup (pa_cons pe_int (pa_cons pe_int (pa_cons pe_int (pa_cons pe_int (pa_cons pe_int (pa_cons pe_int (pa_cons pe_int pa_nil)))))))) (pv 2) (fun _ _ => rfl))) pa_nil)) pe_int) pe_int (nomark _)))) (fun _ _ _ _ _ => (pv 2))))), ?_⟩
  exact ((sr_retO (eo_lc (vs := [2]) (ir_rng1 (ar_cons (er_var 1) ar_nil)) (grc_name (j := 2) (by decide)) (tr_test (er_2 rr_eq (er_2 rr_mod (er_n rc_int (ar_cons (er_2 rr_fdiv (er_var 0) (er_2 rr_ix (er_tup (ar_cons er_int (ar_cons er_int (ar_cons er_int (ar_cons er_int (ar_cons er_int (ar_cons er_int (ar_cons er_int ar_nil)))))))) (er_var 2))) ar_nil)) er_int) er_int)) (er_var 2))) : SR K _ (t_law_bits))
theorem sc_law_pairs : FnScope N_law_pairs ["_law_seats"] (defScope s_law_pairs) := ⟨rfl, rfl, rfl, by decide +kernel, rfl, by decide +kernel, by decide +kernel⟩
theorem ok_law_pairs (T : Txt K mg) : FnOk P w K mg base CX0 1 T.f_law_pairs T.fd_law_pairs ["_law_seats"] (spG K 1 (g_law_pairs)) := by
  refine fnG (m := 3) T.F_law_pairs sc_law_pairs rfl rfl (fun cdv A outer s H E hr => ?_)
  have hu := hr.units
  refine ⟨_, (pss_cons (ps_set (i := 1) sc_law_pairs.nd rfl (by first | exact Or.inl rfl | exact Or.inr rfl) (pe_lst pa_nil))
 (pss_cons (ps_for PassesOwn.never rfl (pi_range1 (by rfl) T.m_range (pa_cons (pv 0) pa_nil)) (pg_name (i := 2) sc_law_pairs.nd rfl (by first | exact Or.inl rfl | exact Or.inr rfl))
 (pss_one (ps_for PassesOwn.never rfl (pi_range2 (by rfl) T.m_range (pa_cons (pe_op op_addA (pv 2) pe_int) (pa_cons (pv 0) pa_nil))) (pg_name (i := 3) sc_law_pairs.nd rfl (by first | exact Or.inl rfl | exact Or.inr rfl))
 (pss_one (ps_expr (pe_bm PySem.F.plainAttrs_list PySem.F.slot_list_append PySem.F.type_list_append mt_append (pv 1) (pa_cons (pe_tup (pa_cons (pv 2) (pa_cons (pv 3) pa_nil))) pa_nil)))))))
 (pss_one (ps_ret (pv 1))))), ?_⟩
  exact ((sr_seq (sr_asgO (eo_lst ar_nil))
 (sr_seq (sr_for (ir_rng1 (ar_cons (er_var 0) ar_nil)) (gr'_name 2)
 (sr_for (ir_rng2 (ar_cons (er_2 rr_add (er_var 2) er_int) (ar_cons (er_var 0) ar_nil))) (gr'_name 3)
 (sr_app (i := 1) (er_tup (ar_cons (er_var 2) (ar_cons (er_var 3) ar_nil))))))
 (sr_retV 1))) : SR K _ (t_law_pairs))
theorem sc_law_pool : FnScope N_law_pool ["_law_cell_here", "_law_most"] (defScope s_law_pool) := ⟨rfl, rfl, rfl, by decide +kernel, rfl, by decide +kernel, by decide +kernel⟩
theorem ok_law_pool (T : Txt K mg) : FnOk P w K mg base CX0 2 T.f_law_pool T.fd_law_pool ["_law_cell_here", "_law_most"] (spG K 2 (g_law_pool)) := by
  have G_law_draws := ok_law_draws (P := P) (w := w) (base := base) T
  have G_law_pairs := ok_law_pairs (P := P) (w := w) (base := base) T
  have G_law_bits := ok_law_bits (P := P) (w := w) (base := base) T
  refine fnG (m := 9) T.F_law_pool sc_law_pool rfl rfl (fun cdv A outer s H E hr => ?_)
  have hu := hr.units
  refine ⟨_, (pss_cons (ps_set (i := 2) sc_law_pool.nd rfl (by first | exact Or.inl rfl | exact Or.inr rfl) (pe_call G_law_draws (hr.mono (by decide)) (by rfl) T.g_law_draws T.F_law_draws.kp T.b_law_draws .nil pass0 (pa_cons (pv 0) (pa_cons (pe_op op_addA (pe_op op_addA (pe_op op_addA (pe_lst (pa_cons pe_int (pa_cons (pe_op op_addA (pv 1) pe_int) (pa_cons pe_int pa_nil)))) (pe_op op_mulA (pe_lst (pa_cons pe_int pa_nil)) pe_int)) (pe_op op_mulA (pe_lst (pa_cons pe_int pa_nil)) pe_int)) (pe_op op_mulA (pe_lst (pa_cons pe_int pa_nil)) pe_int)) pa_nil))))
 (pss_cons (ps_set (i := 3) sc_law_pool.nd rfl (by first | exact Or.inl rfl | exact Or.inr rfl) (pe_op op_addA (pe_ix ix_seq (pv 2) pe_int (fun _ _ => rfl)) pe_int))
 (pss_cons (ps_set (i := 4) sc_law_pool.nd rfl (by first | exact Or.inl rfl | exact Or.inr rfl) (pe_lc (own := [("_law_k", 10)]) (g := (gName 10)) (tt := tYes) (te := (tOp (rIx K) (tTup (tCons (tC (.int 0)) (tCons (tC (.int 1)) (tCons (tC (.int 1)) (tCons (tC (.int 2)) (tCons (tC (.int 3)) (tCons (tOp _ (tOp _ (tC (.int 10)) (tC (.int 12))) (tVar 10)) tNil))))))) (tOp (rIx K) (tVar 2) (tOp _ (tC (.int 3)) (tVar 10))))) rfl sc_law_pool.nd (pi_range1 (by rfl) T.m_range (pa_cons (pv 3) pa_nil)) (blkOk_by (N := N_law_pool) (sc := defScope s_law_pool) (by decide +kernel)) (fun _ _ _ _ _ => (pg_name (i := 10) sc_law_pool.nd rfl (by first | exact Or.inl rfl | exact Or.inr rfl))) (fun _ _ _ _ _ => pts_nil) (fun _ _ _ _ _ => (pe_ix ix_seq (pe_tup (pa_cons pe_int (pa_cons pe_int (pa_cons pe_int (pa_cons pe_int (pa_cons pe_int (pa_cons (pe_op op_addA (pe_op op_pow pe_int pe_int) (pv 10)) pa_nil))))))) (pe_ix ix_seq (pv 2) (pe_op op_addA pe_int (pv 10)) (fun _ _ => rfl)) (fun _ _ => rfl)))))
 (pss_cons (ps_set (i := 5) sc_law_pool.nd rfl (by first | exact Or.inl rfl | exact Or.inr rfl) (pe_call G_law_pairs (hr.mono (by decide)) (by rfl) T.g_law_pairs T.F_law_pairs.kp T.b_law_pairs .nil pass0 (pa_cons (pv 3) pa_nil)))
 (pss_cons (ps_set (i := 6) sc_law_pool.nd rfl (by first | exact Or.inl rfl | exact Or.inr rfl) (pe_lst pa_nil))
 (pss_cons (ps_for PassesOwn.never rfl (pi_range1 (by rfl) T.m_range (pa_cons (pe_ix ix_seq (pv 2) pe_int (fun _ _ => rfl)) pa_nil)) (pg_name (i := 7) sc_law_pool.nd rfl (by first | exact Or.inl rfl | exact Or.inr rfl))
 (pss_cons (ps_set (i := 8) sc_law_pool.nd rfl (by first | exact Or.inl rfl | exact Or.inr rfl) (pe_call G_law_bits (hr.mono (by decide)) (by rfl) T.g_law_bits T.F_law_bits.kp T.b_law_bits .nil pass0 (pa_cons (pe_ix ix_seq (pv 2) (pe_op op_addA pe_int (pv 7)) (fun _ _ => rfl)) (pa_cons (pv 3) pa_nil))))
 (pss_cons (ps_if ((pw_and (pt_cmpR (op_eqD hu) (pe_ix ix_seq (pv 2) pe_int (fun _ _ => rfl)) pe_int (nomark _)) (pw_and1 (pt_cmpR op_gt (pe_callB call_lenA (by rfl) T.m_len bt_len (pa_cons (pv 5) pa_nil)) pe_int (nomark _))))).pt
 (pss_cons (ps_set (i := 9) sc_law_pool.nd rfl (by first | exact Or.inl rfl | exact Or.inr rfl) (pe_ix ix_seq (pv 5) (pe_op op_mod (pe_callTy call_int1 (by rfl) T.m_int bt_int (pa_cons (pe_ix ix_seq (pv 2) (pe_op op_addA pe_int (pv 7)) (fun _ _ => rfl)) pa_nil)) (pe_callB call_lenA (by rfl) T.m_len bt_len (pa_cons (pv 5) pa_nil))) (fun _ _ => rfl)))
 (pss_one (ps_set (i := 8) sc_law_pool.nd rfl (by first | exact Or.inl rfl | exact Or.inr rfl) (pe_lc (own := [("_law_k", 10)]) (g := (gName 10)) (tt := (tOr (tTest (tOp (rIn K false) (tVar 10) (tVar 8))) (tTest (tOp (rIn K false) (tVar 10) (tVar 9))))) (te := (tVar 10)) rfl sc_law_pool.nd (pi_range1 (by rfl) T.m_range (pa_cons (pv 3) pa_nil)) (blkOk_by (N := N_law_pool) (sc := defScope s_law_pool) (by decide +kernel)) (fun _ _ _ _ _ => (pg_name (i := 10) sc_law_pool.nd rfl (by first | exact Or.inl rfl | exact Or.inr rfl))) (fun _ _ _ _ _ => (pts_one ((pw_or (pt_cmpR op_in_seq (pv 10) (pv 8) (by rfl)) (pw_or1 (pt_cmpR op_in_seq (pv 10) (pv 9) (by rfl))))).pt)) (fun _ _ _ _ _ => (pv 10))))))
 pss_nil)
 (pss_cons (ps_if ((pw_and (pt_cmpR (op_eqD hu) (pe_ix ix_seq (pv 2) pe_int (fun _ _ => rfl)) pe_int (nomark _)) (pw_and1 (pt_cmpR op_gt (pe_callB call_lenA (by rfl) T.m_len bt_len (pa_cons (pv 5) pa_nil)) pe_int (nomark _))))).pt
 (pss_one (ps_set (i := 8) sc_law_pool.nd rfl (by first | exact Or.inl rfl | exact Or.inr rfl) (pe_callTy call_list_of (by rfl) T.m_list bt_list (pa_cons (pe_ix ix_seq (pv 5) (pe_op op_mod (pe_callTy call_int1 (by rfl) T.m_int bt_int (pa_cons (pe_ix ix_seq (pv 2) (pe_op op_addA pe_int (pv 7)) (fun _ _ => rfl)) pa_nil)) (pe_callB call_lenA (by rfl) T.m_len bt_len (pa_cons (pv 5) pa_nil))) (fun _ _ => rfl)) pa_nil))))
 pss_nil)
 (pss_cons (ps_if (pt_cmpR (op_eqD hu) (pe_ix ix_seq (pv 2) pe_int (fun _ _ => rfl)) pe_int (nomark _))
 (pss_one (ps_set (i := 8) sc_law_pool.nd rfl (by first | exact Or.inl rfl | exact Or.inr rfl) (pe_call G_law_bits (hr.mono (by decide)) (by rfl) T.g_law_bits T.F_law_bits.kp T.b_law_bits .nil pass0 (pa_cons (pe_ix ix_seq (pv 2) (pe_op op_addA pe_int (pe_op op_fdivW (pv 7) pe_int)) (fun _ _ => rfl)) (pa_cons (pv 3) pa_nil)))))
 pss_nil)
 (pss_one (ps_expr (pe_bm PySem.F.plainAttrs_list PySem.F.slot_list_append PySem.F.type_list_append mt_append (pv 6) (pa_cons (pv 8) pa_nil)))))))))
 (pss_cons (ps_if (pt_cmpR (op_eqD hu) (pe_ix ix_seq (pv 2) pe_int (fun _ _ => rfl)) pe_int (nomark _))
 (pss_one (ps_set (i := 4) sc_law_pool.nd rfl (by first | exact Or.inl rfl | exact Or.inr rfl) (pe_lc (own := [("_law_k", 10)]) (g := (gName 10)) (tt := tYes) (te := (tOp (rIx K) (tVar 4) (tC (.int 0)))) rfl sc_law_pool.nd (pi_range1 (by rfl) T.m_range (pa_cons (pv 3) pa_nil)) (blkOk_by (N := N_law_pool) (sc := defScope s_law_pool) (by decide +kernel)) (fun _ _ _ _ _ => (pg_name (i := 10) sc_law_pool.nd rfl (by first | exact Or.inl rfl | exact Or.inr rfl))) (fun _ _ _ _ _ => pts_nil) (fun _ _ _ _ _ => (pe_ix ix_seq (pv 4) pe_int (fun _ _ => rfl))))))
 pss_nil)
 (pss_one (ps_ret (pe_tup (pa_cons (pv 4) (pa_cons (pv 6) pa_nil)))))))))))), ?_⟩
  exact ((sr_seq (sr_asg (er_call (ar_cons (er_var 0) (ar_cons (er_2 rr_add (er_2 rr_add (er_2 rr_add (er_lst (ar_cons er_int (ar_cons (er_2 rr_add (er_var 1) er_int) (ar_cons er_int ar_nil)))) (er_2 rr_mul (er_lst (ar_cons er_int ar_nil)) er_int)) (er_2 rr_mul (er_lst (ar_cons er_int ar_nil)) er_int)) (er_2 rr_mul (er_lst (ar_cons er_int ar_nil)) er_int)) ar_nil))) (gr'_name 2))
 (sr_seq (sr_asg (er_2 rr_add (er_2 rr_ix (er_var 2) er_int) er_int) (gr'_name 3))
 (sr_seq (sr_asg (er_of_eo (eo_lc (vs := [10]) (ir_rng1 (ar_cons (er_var 3) ar_nil)) (grc_name (j := 10) (by decide)) tr_yes (er_2 rr_ix (er_tup (ar_cons er_int (ar_cons er_int (ar_cons er_int (ar_cons er_int (ar_cons er_int (ar_cons (er_2 rr_add (er_2 rr_pow er_int er_int) (er_var 10)) ar_nil))))))) (er_2 rr_ix (er_var 2) (er_2 rr_add er_int (er_var 10)))))) (gr'_name 4))
 (sr_seq (sr_asg (er_call (ar_cons (er_var 3) ar_nil)) (gr'_name 5))
 (sr_seq (sr_asgO (eo_lst ar_nil))
 (sr_seq (sr_for (ir_rng1 (ar_cons (er_2 rr_ix (er_var 2) er_int) ar_nil)) (gr'_name 7)
 (sr_seq (sr_asg (er_call (ar_cons (er_2 rr_ix (er_var 2) (er_2 rr_add er_int (er_var 7))) (ar_cons (er_var 3) ar_nil))) (gr'_name 8))
 (sr_seq (sr_if (tr_and (tr_test (er_2 rr_eq (er_2 rr_ix (er_var 2) er_int) er_int)) (tr_test (er_2 rr_gt (er_n rc_len (ar_cons (er_var 5) ar_nil)) er_int)))
 (sr_seq (sr_asg (er_2 rr_ix (er_var 5) (er_2 rr_mod (er_n rc_int (ar_cons (er_2 rr_ix (er_var 2) (er_2 rr_add er_int (er_var 7))) ar_nil)) (er_n rc_len (ar_cons (er_var 5) ar_nil)))) (gr'_name 9))
 (sr_asg (er_of_eo (eo_lc (vs := [10]) (ir_rng1 (ar_cons (er_var 3) ar_nil)) (grc_name (j := 10) (by decide)) (tr_or (tr_test (er_2 rr_in (er_var 10) (er_var 8))) (tr_test (er_2 rr_in (er_var 10) (er_var 9)))) (er_var 10))) (gr'_name 8)))
 sr_next)
 (sr_seq (sr_if (tr_and (tr_test (er_2 rr_eq (er_2 rr_ix (er_var 2) er_int) er_int)) (tr_test (er_2 rr_gt (er_n rc_len (ar_cons (er_var 5) ar_nil)) er_int)))
 (sr_asg (er_n rc_list (ar_cons (er_2 rr_ix (er_var 5) (er_2 rr_mod (er_n rc_int (ar_cons (er_2 rr_ix (er_var 2) (er_2 rr_add er_int (er_var 7))) ar_nil)) (er_n rc_len (ar_cons (er_var 5) ar_nil)))) ar_nil)) (gr'_name 8))
 sr_next)
 (sr_seq (sr_if (tr_test (er_2 rr_eq (er_2 rr_ix (er_var 2) er_int) er_int))
 (sr_asg (er_call (ar_cons (er_2 rr_ix (er_var 2) (er_2 rr_add er_int (er_2 rr_fdiv (er_var 7) er_int))) (ar_cons (er_var 3) ar_nil))) (gr'_name 8))
 sr_next)
 (sr_app (i := 6) (er_var 8)))))))
 (sr_seq (sr_if (tr_test (er_2 rr_eq (er_2 rr_ix (er_var 2) er_int) er_int))
 (sr_asg (er_of_eo (eo_lc (vs := [10]) (ir_rng1 (ar_cons (er_var 3) ar_nil)) (grc_name (j := 10) (by decide)) tr_yes (er_2 rr_ix (er_var 4) er_int))) (gr'_name 4))
 sr_next)
 (sr_frz [6] (sr_ret (er_tup (ar_cons (er_var 4) (ar_cons (er_var 6) ar_nil)))))))))))) : SR K _ (t_law_pool))
theorem sc_law_wide_bits : FnScope N_law_wide_bits ["_law_mask", "_law_count"] (defScope s_law_wide_bits) := ⟨rfl, rfl, rfl, by decide +kernel, rfl, by decide +kernel, by decide +kernel⟩
theorem ok_law_wide_bits (T : Txt K mg) : FnOk P w K mg base CX0 1 T.f_law_wide_bits T.fd_law_wide_bits ["_law_mask", "_law_count"] (spG K 2 (g_law_wide_bits)) := by
  refine fnG (m := 3) T.F_law_wide_bits sc_law_wide_bits rfl rfl (fun cdv A outer s H E hr => ?_)
  have hu := hr.units
  refine ⟨_, (pss_cons (ps_set (i := 2) sc_law_wide_bits.nd rfl (by first | exact Or.inl rfl | exact Or.inr rfl) (pe_callTy call_int1 (by rfl) T.m_int bt_int (pa_cons (pv 0) pa_nil)))
 (pss_cons (ps_set (i := 3) sc_law_wide_bits.nd rfl (by first | exact Or.inl rfl | exact Or.inr rfl) (pe_lst pa_nil))
 (pss_cons (ps_for PassesOwn.never rfl (pi_range1 (by rfl) T.m_range (pa_cons (pv 1) pa_nil)) (pg_name (i := 4) sc_law_wide_bits.nd rfl (by first | exact Or.inl rfl | exact Or.inr rfl))
 (pss_cons (ps_if (pt_cmpR (op_eqD hu) (pe_op op_mod (pe_callTy call_int1 (by rfl) T.m_int bt_int (pa_cons (pv 2) pa_nil)) pe_int) pe_int (nomark _))
 (pss_one (ps_expr (pe_bm PySem.F.plainAttrs_list PySem.F.slot_list_append PySem.F.type_list_append mt_append (pv 3) (pa_cons (pv 4) pa_nil))))
 pss_nil)
 (pss_one (ps_set (i := 2) sc_law_wide_bits.nd rfl (by first | exact Or.inl rfl | exact Or.inr rfl) (pe_op op_fdivW (pv 2) pe_int)))))
 (pss_one (ps_ret (pv 3)))))), ?_⟩
  exact ((sr_seq (sr_asg (er_n rc_int (ar_cons (er_var 0) ar_nil)) (gr'_name 2))
 (sr_seq (sr_asgO (eo_lst ar_nil))
 (sr_seq (sr_for (ir_rng1 (ar_cons (er_var 1) ar_nil)) (gr'_name 4)
 (sr_seq (sr_if (tr_test (er_2 rr_eq (er_2 rr_mod (er_n rc_int (ar_cons (er_var 2) ar_nil)) er_int) er_int))
 (sr_app (i := 3) (er_var 4))
 sr_next)
 (sr_asg (er_2 rr_fdiv (er_var 2) er_int) (gr'_name 2))))
 (sr_retV 3)))) : SR K _ (t_law_wide_bits))
theorem sc_law_wide_pool : FnScope N_law_wide_pool ["_law_cell_here", "_law_most"] (defScope s_law_wide_pool) := ⟨rfl, rfl, rfl, by decide +kernel, rfl, by decide +kernel, by decide +kernel⟩
theorem ok_law_wide_pool (T : Txt K mg) : FnOk P w K mg base CX0 2 T.f_law_wide_pool T.fd_law_wide_pool ["_law_cell_here", "_law_most"] (spG K 2 (g_law_wide_pool)) := by
  have G_law_draws := ok_law_draws (P := P) (w := w) (base := base) T
  have G_law_wide_bits := ok_law_wide_bits (P := P) (w := w) (base := base) T
  refine fnG (m := 7) T.F_law_wide_pool sc_law_wide_pool rfl rfl (fun cdv A outer s H E hr => ?_)
  have hu := hr.units
  refine ⟨_, (pss_cons (ps_set (i := 2) sc_law_wide_pool.nd rfl (by first | exact Or.inl rfl | exact Or.inr rfl) (pe_call G_law_draws (hr.mono (by decide)) (by rfl) T.g_law_draws T.F_law_draws.kp T.b_law_draws .nil pass0 (pa_cons (pv 0) (pa_cons (pe_op op_addA (pe_op op_addA (pe_lst (pa_cons pe_int (pa_cons (pe_op op_addA (pv 1) pe_int) (pa_cons pe_int pa_nil)))) (pe_op op_mulA (pe_lst (pa_cons pe_int pa_nil)) pe_int)) (pe_op op_mulA (pe_lst (pa_cons pe_int pa_nil)) pe_int)) pa_nil))))
 (pss_cons (ps_set (i := 3) sc_law_wide_pool.nd rfl (by first | exact Or.inl rfl | exact Or.inr rfl) (pe_op op_addA (pe_ix ix_seq (pv 2) pe_int (fun _ _ => rfl)) pe_int))
 (pss_cons (ps_setLc (i := 4) (own := [("_law_k", 8)]) (g := (gName 8)) (tt := tYes) (te := (tOp (rIx K) (tTup (tCons (tC (.int 0)) (tCons (tC (.int 1)) (tCons (tC (.int 2)) (tCons (tC (.int 3)) (tCons (tC (.int 4)) (tCons (tC (.int 7)) (tCons (tC (.int 9)) (tCons (tC (.int 10)) (tCons (tC (.int 11)) (tCons (tOp _ (tOp _ (tC (.int 10)) (tC (.int 39))) (tVar 8)) tNil))))))))))) (tOp (rIx K) (tVar 2) (tOp _ (tC (.int 3)) (tVar 8))))) rfl sc_law_wide_pool.nd rfl rfl (sw_true rfl rfl rfl (by decide +kernel)) (pi_range1 (by rfl) T.m_range (pa_cons (pv 3) pa_nil)) (blkOk_by (N := N_law_wide_pool) (sc := defScope s_law_wide_pool) (by decide +kernel)) (fun _ _ _ _ _ => (pg_name (i := 8) sc_law_wide_pool.nd rfl (by first | exact Or.inl rfl | exact Or.inr rfl))) (fun _ _ _ _ _ => pts_nil) (fun _ _ _ _ _ => (pe_ix ix_seq (pe_tup (pa_cons pe_int (pa_cons pe_int (pa_cons pe_int (pa_cons pe_int (pa_cons pe_int (pa_cons pe_int (pa_cons pe_int (pa_cons pe_int (pa_cons pe_int (pa_cons (pe_op op_addA (pe_op op_pow pe_int pe_int) (pv 8)) pa_nil))))))))))) (pe_ix ix_seq (pv 2) (pe_op op_addA pe_int (pv 8)) (fun _ _ => rfl)) (fun _ _ => rfl))))
 (pss_cons (ps_set (i := 5) sc_law_wide_pool.nd rfl (by first | exact Or.inl rfl | exact Or.inr rfl) (pe_lst pa_nil))
 (pss_cons (ps_for PassesOwn.never rfl (pi_range1 (by rfl) T.m_range (pa_cons (pe_ix ix_seq (pv 2) pe_int (fun _ _ => rfl)) pa_nil)) (pg_name (i := 6) sc_law_wide_pool.nd rfl (by first | exact Or.inl rfl | exact Or.inr rfl))
 (pss_cons (ps_set (i := 7) sc_law_wide_pool.nd rfl (by first | exact Or.inl rfl | exact Or.inr rfl) (pe_call G_law_wide_bits (hr.mono (by decide)) (by rfl) T.g_law_wide_bits T.F_law_wide_bits.kp T.b_law_wide_bits .nil pass0 (pa_cons (pe_ix ix_seq (pv 2) (pe_op op_addA pe_int (pv 6)) (fun _ _ => rfl)) (pa_cons (pv 3) pa_nil))))
 (pss_cons (ps_if (pt_cmpR (op_eqD hu) (pe_ix ix_seq (pv 2) pe_int (fun _ _ => rfl)) pe_int (nomark _))
 (pss_one (ps_set (i := 7) sc_law_wide_pool.nd rfl (by first | exact Or.inl rfl | exact Or.inr rfl) (pe_slice sl_list (pv 7) po_none (po_some pe_int))))
 pss_nil)
 (pss_cons (ps_if (pt_cmpR (op_eqD hu) (pe_ix ix_seq (pv 2) pe_int (fun _ _ => rfl)) pe_int (nomark _))
 (pss_one (ps_set (i := 7) sc_law_wide_pool.nd rfl (by first | exact Or.inl rfl | exact Or.inr rfl) (pe_slice sl_list (pv 7) (po_some (pe_callB (call_maxA rfl) (by rfl) T.m_max bt_max (pa_cons pe_int (pa_cons (pe_op op_sub (pe_callB call_lenA (by rfl) T.m_len bt_len (pa_cons (pv 7) pa_nil)) pe_int) pa_nil)))) po_none)))
 pss_nil)
 (pss_one (ps_expr (pe_bm PySem.F.plainAttrs_list PySem.F.slot_list_append PySem.F.type_list_append mt_append (pv 5) (pa_cons (pv 7) pa_nil))))))))
 (pss_one (ps_ret (pe_tup (pa_cons (pv 4) (pa_cons (pv 5) pa_nil)))))))))), ?_⟩
  exact ((sr_seq (sr_asg (er_call (ar_cons (er_var 0) (ar_cons (er_2 rr_add (er_2 rr_add (er_lst (ar_cons er_int (ar_cons (er_2 rr_add (er_var 1) er_int) (ar_cons er_int ar_nil)))) (er_2 rr_mul (er_lst (ar_cons er_int ar_nil)) er_int)) (er_2 rr_mul (er_lst (ar_cons er_int ar_nil)) er_int)) ar_nil))) (gr'_name 2))
 (sr_seq (sr_asg (er_2 rr_add (er_2 rr_ix (er_var 2) er_int) er_int) (gr'_name 3))
 (sr_seq (sr_asg (er_of_eo (eo_lc (vs := [8]) (ir_rng1 (ar_cons (er_var 3) ar_nil)) (grc_name (j := 8) (by decide)) tr_yes (er_2 rr_ix (er_tup (ar_cons er_int (ar_cons er_int (ar_cons er_int (ar_cons er_int (ar_cons er_int (ar_cons er_int (ar_cons er_int (ar_cons er_int (ar_cons er_int (ar_cons (er_2 rr_add (er_2 rr_pow er_int er_int) (er_var 8)) ar_nil))))))))))) (er_2 rr_ix (er_var 2) (er_2 rr_add er_int (er_var 8)))))) (gr'_name 4))
 (sr_seq (sr_asgO (eo_lst ar_nil))
 (sr_seq (sr_for (ir_rng1 (ar_cons (er_2 rr_ix (er_var 2) er_int) ar_nil)) (gr'_name 6)
 (sr_seq (sr_asg (er_call (ar_cons (er_2 rr_ix (er_var 2) (er_2 rr_add er_int (er_var 6))) (ar_cons (er_var 3) ar_nil))) (gr'_name 7))
 (sr_seq (sr_if (tr_test (er_2 rr_eq (er_2 rr_ix (er_var 2) er_int) er_int))
 (sr_asg (er_sl (er_var 7) or_none (or_some er_int)) (gr'_name 7))
 sr_next)
 (sr_seq (sr_if (tr_test (er_2 rr_eq (er_2 rr_ix (er_var 2) er_int) er_int))
 (sr_asg (er_sl (er_var 7) (or_some (er_n rc_max (ar_cons er_int (ar_cons (er_2 rr_sub (er_n rc_len (ar_cons (er_var 7) ar_nil)) er_int) ar_nil)))) or_none) (gr'_name 7))
 sr_next)
 (sr_app (i := 5) (er_var 7))))))
 (sr_frz [5] (sr_ret (er_tup (ar_cons (er_var 4) (ar_cons (er_var 5) ar_nil)))))))))) : SR K _ (t_law_wide_pool))
theorem sc_law_is_integer : FnScope N_law_is_integer ["_law_actual"] (defScope s_law_is_integer) := ⟨rfl, rfl, rfl, by decide +kernel, rfl, by decide +kernel, by decide +kernel⟩
theorem ok_law_is_integer (T : Txt K mg) : FnOk P w K mg base CX0 1 T.f_law_is_integer T.fd_law_is_integer ["_law_actual"] (spG K 1 (g_law_is_integer)) := by
  refine fnG (m := 0) T.F_law_is_integer sc_law_is_integer rfl rfl (fun cdv A outer s H E hr => ?_)
  have hu := hr.units
  refine ⟨_, (pss_one (ps_ret (pe_and (pe_callB call_isi (by rfl) T.m_isinstance bt_isinstance (pa_cons (pv 0) (pa_cons (pe_bltn (v := .ty "int") (by rfl) T.m_int bt_int rfl) pa_nil))) (pe_one (pe_not (pe_callB call_isi (by rfl) T.m_isinstance bt_isinstance (pa_cons (pv 0) (pa_cons (pe_bltn (v := .ty "bool") (by rfl) T.m_bool bt_bool rfl) pa_nil)))))))), ?_⟩
  exact ((sr_ret (er_and (er_n rc_isi (ar_cons (er_var 0) (ar_cons er_ty ar_nil))) (er_not (er_n rc_isi (ar_cons (er_var 0) (ar_cons er_ty ar_nil)))))) : SR K _ (t_law_is_integer))
theorem sc_law_is_pool : FnScope N_law_is_pool ["_law_pool_here", "_law_caps", "_law_holders"] (defScope s_law_is_pool) := ⟨rfl, rfl, rfl, by decide +kernel, rfl, by decide +kernel, by decide +kernel⟩
theorem ok_law_is_pool (T : Txt K mg) : FnOk P w K mg base CX0 2 T.f_law_is_pool T.fd_law_is_pool ["_law_pool_here", "_law_caps", "_law_holders"] (spG K 3 (g_law_is_pool T.c)) := by
  have G_law_is_integer := ok_law_is_integer (P := P) (w := w) (base := base) T
  refine fnG (m := 3) T.F_law_is_pool sc_law_is_pool rfl rfl (fun cdv A outer s H E hr => ?_)
  have hu := hr.units
  refine ⟨_, (pss_cons (ps_if ((pw_or (pt_not (pt_truth (pe_callB call_isi (by rfl) T.m_isinstance bt_isinstance (pa_cons (pe_fld (pv 0) rfl) (pa_cons (pe_bltn (v := .ty "tuple") (by rfl) T.m_tuple bt_tuple rfl) pa_nil))) (fun _ => rfl))) (pw_or1 (pt_not (pt_truth (pe_callB call_isi (by rfl) T.m_isinstance bt_isinstance (pa_cons (pe_fld (pv 0) rfl) (pa_cons (pe_bltn (v := .ty "tuple") (by rfl) T.m_tuple bt_tuple rfl) pa_nil))) (fun _ => rfl)))))).pt
 (pss_one (ps_ret pe_bl))
 pss_nil)
 (pss_cons (ps_if ((pw_or (pt_not (pt_truth (pe_call G_law_is_integer (hr.mono (by decide)) (by rfl) T.g_law_is_integer T.F_law_is_integer.kp T.b_law_is_integer .nil pass0 (pa_cons (pe_fld (pv 0) rfl) pa_nil)) (fun _ => rfl))) (pw_or1 (pt_not (pt_truth (pe_call G_law_is_integer (hr.mono (by decide)) (by rfl) T.g_law_is_integer T.F_law_is_integer.kp T.b_law_is_integer .nil pass0 (pa_cons (pe_fld (pv 0) rfl) pa_nil)) (fun _ => rfl)))))).pt
 (pss_one (ps_ret pe_bl))
 pss_nil)
 (pss_cons (ps_if ((pw_or (pt_cmpR (op_neD hu) (pe_fld (pv 0) rfl) (pe_callB call_lenA (by rfl) T.m_len bt_len (pa_cons (pv 1) pa_nil)) (nomark _)) (pw_or1 (pt_cmpR (op_neD hu) (pe_fld (pv 0) rfl) (pe_callB call_lenA (by rfl) T.m_len bt_len (pa_cons (pv 2) pa_nil)) (nomark _))))).pt
 (pss_one (ps_ret pe_bl))
 pss_nil)
 (pss_cons (ps_if ((pw_or (pt_cmpR (op_neD hu) (pe_callB call_lenA (by rfl) T.m_len bt_len (pa_cons (pe_fld (pv 0) rfl) pa_nil)) (pe_callB call_lenA (by rfl) T.m_len bt_len (pa_cons (pv 1) pa_nil)) (nomark _)) (pw_or1 (pt_cmpR (op_neD hu) (pe_callB call_lenA (by rfl) T.m_len bt_len (pa_cons (pe_fld (pv 0) rfl) pa_nil)) (pe_callB call_lenA (by rfl) T.m_len bt_len (pa_cons (pv 2) pa_nil)) (nomark _))))).pt
 (pss_one (ps_ret pe_bl))
 pss_nil)
 (pss_cons (ps_for PassesOwn.never rfl (pi_range1 (by rfl) T.m_range (pa_cons (pe_callB call_lenA (by rfl) T.m_len bt_len (pa_cons (pv 1) pa_nil)) pa_nil)) (pg_name (i := 3) sc_law_is_pool.nd rfl (by first | exact Or.inl rfl | exact Or.inr rfl))
 (pss_one (ps_if ((pw_or (pt_not (pt_truth (pe_call G_law_is_integer (hr.mono (by decide)) (by rfl) T.g_law_is_integer T.F_law_is_integer.kp T.b_law_is_integer .nil pass0 (pa_cons (pe_ix ix_seq (pe_fld (pv 0) rfl) (pv 3) (fun _ _ => rfl)) pa_nil)) (fun _ => rfl))) (pw_or1 (pt_cmpR (op_neD hu) (pe_ix ix_seq (pe_fld (pv 0) rfl) (pv 3) (fun _ _ => rfl)) (pe_ix ix_seq (pv 1) (pv 3) (fun _ _ => rfl)) (nomark _))))).pt
 (pss_one (ps_ret pe_bl))
 pss_nil)))
 (pss_cons (ps_for PassesOwn.never rfl (pi_range1 (by rfl) T.m_range (pa_cons (pe_callB call_lenA (by rfl) T.m_len bt_len (pa_cons (pv 2) pa_nil)) pa_nil)) (pg_name (i := 4) sc_law_is_pool.nd rfl (by first | exact Or.inl rfl | exact Or.inr rfl))
 (pss_cons (ps_set (i := 5) sc_law_is_pool.nd rfl (by first | exact Or.inl rfl | exact Or.inr rfl) (pe_ix ix_seq (pe_fld (pv 0) rfl) (pv 4) (fun _ _ => rfl)))
 (pss_cons (ps_if ((pw_or (pt_not (pt_truth (pe_callB call_isi (by rfl) T.m_isinstance bt_isinstance (pa_cons (pv 5) (pa_cons (pe_bltn (v := .ty "tuple") (by rfl) T.m_tuple bt_tuple rfl) pa_nil))) (fun _ => rfl))) (pw_or1 (pt_cmpR (op_neD hu) (pe_callB call_lenA (by rfl) T.m_len bt_len (pa_cons (pv 5) pa_nil)) (pe_callB call_lenA (by rfl) T.m_len bt_len (pa_cons (pe_ix ix_seq (pv 2) (pv 4) (fun _ _ => rfl)) pa_nil)) (nomark _))))).pt
 (pss_one (ps_ret pe_bl))
 pss_nil)
 (pss_one (ps_for PassesOwn.never rfl (pi_range1 (by rfl) T.m_range (pa_cons (pe_callB call_lenA (by rfl) T.m_len bt_len (pa_cons (pv 5) pa_nil)) pa_nil)) (pg_name (i := 3) sc_law_is_pool.nd rfl (by first | exact Or.inl rfl | exact Or.inr rfl))
 (pss_one (ps_if ((pw_or (pt_not (pt_truth (pe_call G_law_is_integer (hr.mono (by decide)) (by rfl) T.g_law_is_integer T.F_law_is_integer.kp T.b_law_is_integer .nil pass0 (pa_cons (pe_ix ix_seq (pv 5) (pv 3) (fun _ _ => rfl)) pa_nil)) (fun _ => rfl))) (pw_or1 (pt_cmpR (op_neD hu) (pe_ix ix_seq (pv 5) (pv 3) (fun _ _ => rfl)) (pe_ix ix_seq (pe_ix ix_seq (pv 2) (pv 4) (fun _ _ => rfl)) (pv 3) (fun _ _ => rfl)) (nomark _))))).pt
 (pss_one (ps_ret pe_bl))
 pss_nil)))))))
 (pss_one (ps_ret pe_bl)))))))), ?_⟩
  exact ((sr_seq (sr_if (tr_or (tr_not (tr_tru (er_n rc_isi (ar_cons (er_fld T.cl_Pool T.n_Pool_caps (er_var 0)) (ar_cons er_ty ar_nil))))) (tr_not (tr_tru (er_n rc_isi (ar_cons (er_fld T.cl_Pool T.n_Pool_holders (er_var 0)) (ar_cons er_ty ar_nil))))))
 (sr_ret er_bl)
 sr_next)
 (sr_seq (sr_if (tr_or (tr_not (tr_tru (er_call (ar_cons (er_fld T.cl_Pool T.n_Pool_seats (er_var 0)) ar_nil)))) (tr_not (tr_tru (er_call (ar_cons (er_fld T.cl_Pool T.n_Pool_pieces (er_var 0)) ar_nil)))))
 (sr_ret er_bl)
 sr_next)
 (sr_seq (sr_if (tr_or (tr_test (er_2 rr_ne (er_fld T.cl_Pool T.n_Pool_seats (er_var 0)) (er_n rc_len (ar_cons (er_var 1) ar_nil)))) (tr_test (er_2 rr_ne (er_fld T.cl_Pool T.n_Pool_pieces (er_var 0)) (er_n rc_len (ar_cons (er_var 2) ar_nil)))))
 (sr_ret er_bl)
 sr_next)
 (sr_seq (sr_if (tr_or (tr_test (er_2 rr_ne (er_n rc_len (ar_cons (er_fld T.cl_Pool T.n_Pool_caps (er_var 0)) ar_nil)) (er_n rc_len (ar_cons (er_var 1) ar_nil)))) (tr_test (er_2 rr_ne (er_n rc_len (ar_cons (er_fld T.cl_Pool T.n_Pool_holders (er_var 0)) ar_nil)) (er_n rc_len (ar_cons (er_var 2) ar_nil)))))
 (sr_ret er_bl)
 sr_next)
 (sr_seq (sr_for (ir_rng1 (ar_cons (er_n rc_len (ar_cons (er_var 1) ar_nil)) ar_nil)) (gr'_name 3)
 (sr_if (tr_or (tr_not (tr_tru (er_call (ar_cons (er_2 rr_ix (er_fld T.cl_Pool T.n_Pool_caps (er_var 0)) (er_var 3)) ar_nil)))) (tr_test (er_2 rr_ne (er_2 rr_ix (er_fld T.cl_Pool T.n_Pool_caps (er_var 0)) (er_var 3)) (er_2 rr_ix (er_var 1) (er_var 3)))))
 (sr_ret er_bl)
 sr_next))
 (sr_seq (sr_for (ir_rng1 (ar_cons (er_n rc_len (ar_cons (er_var 2) ar_nil)) ar_nil)) (gr'_name 4)
 (sr_seq (sr_asg (er_2 rr_ix (er_fld T.cl_Pool T.n_Pool_holders (er_var 0)) (er_var 4)) (gr'_name 5))
 (sr_seq (sr_if (tr_or (tr_not (tr_tru (er_n rc_isi (ar_cons (er_var 5) (ar_cons er_ty ar_nil))))) (tr_test (er_2 rr_ne (er_n rc_len (ar_cons (er_var 5) ar_nil)) (er_n rc_len (ar_cons (er_2 rr_ix (er_var 2) (er_var 4)) ar_nil)))))
 (sr_ret er_bl)
 sr_next)
 (sr_for (ir_rng1 (ar_cons (er_n rc_len (ar_cons (er_var 5) ar_nil)) ar_nil)) (gr'_name 3)
 (sr_if (tr_or (tr_not (tr_tru (er_call (ar_cons (er_2 rr_ix (er_var 5) (er_var 3)) ar_nil)))) (tr_test (er_2 rr_ne (er_2 rr_ix (er_var 5) (er_var 3)) (er_2 rr_ix (er_2 rr_ix (er_var 2) (er_var 4)) (er_var 3)))))
 (sr_ret er_bl)
 sr_next)))))
 (sr_ret er_bl))))))) : SR K _ (t_law_is_pool T.c))
theorem sc_law_is_dealing : FnScope N_law_is_dealing ["_law_caps", "_law_holders", "_law_dealing"] (defScope s_law_is_dealing) := ⟨rfl, rfl, rfl, by decide +kernel, rfl, by decide +kernel, by decide +kernel⟩
theorem ok_law_is_dealing (T : Txt K mg) : FnOk P w K mg base CX0 2 T.f_law_is_dealing T.fd_law_is_dealing ["_law_caps", "_law_holders", "_law_dealing"] (spG K 3 (g_law_is_dealing)) := by
  have G_law_is_integer := ok_law_is_integer (P := P) (w := w) (base := base) T
  have G_law_pairs := ok_law_pairs (P := P) (w := w) (base := base) T
  refine fnG (m := 3) T.F_law_is_dealing sc_law_is_dealing rfl rfl (fun cdv A outer s H E hr => ?_)
  have hu := hr.units
  refine ⟨_, (pss_cons (ps_if ((pw_or (pt_not (pt_truth (pe_callB call_isi (by rfl) T.m_isinstance bt_isinstance (pa_cons (pv 2) (pa_cons (pe_bltn (v := .ty "list") (by rfl) T.m_list bt_list rfl) pa_nil))) (fun _ => rfl))) (pw_or1 (pt_cmpR (op_neD hu) (pe_callB call_lenA (by rfl) T.m_len bt_len (pa_cons (pv 2) pa_nil)) (pe_callB call_lenA (by rfl) T.m_len bt_len (pa_cons (pv 1) pa_nil)) (nomark _))))).pt
 (pss_one (ps_ret pe_bl))
 pss_nil)
 (pss_cons (ps_for PassesOwn.never rfl (pi_range1 (by rfl) T.m_range (pa_cons (pe_callB call_lenA (by rfl) T.m_len bt_len (pa_cons (pv 1) pa_nil)) pa_nil)) (pg_name (i := 3) sc_law_is_dealing.nd rfl (by first | exact Or.inl rfl | exact Or.inr rfl))
 (pss_cons (ps_set (i := 4) sc_law_is_dealing.nd rfl (by first | exact Or.inl rfl | exact Or.inr rfl) (pe_ix ix_seq (pv 2) (pv 3) (fun _ _ => rfl)))
 (pss_one (ps_if (pt_cmpR op_notN (pv 4) pe_non (nomark _))
 (pss_cons (ps_if ((pw_or (pt_not (pt_truth (pe_callB call_isi (by rfl) T.m_isinstance bt_isinstance (pa_cons (pv 4) (pa_cons (pe_bltn (v := .ty "tuple") (by rfl) T.m_tuple bt_tuple rfl) pa_nil))) (fun _ => rfl))) (pw_or1 (pt_cmpR (op_neD hu) (pe_callB call_lenA (by rfl) T.m_len bt_len (pa_cons (pv 4) pa_nil)) pe_int (nomark _))))).pt
 (pss_one (ps_ret pe_bl))
 pss_nil)
 (pss_cons (ps_if ((pw_or (pt_not (pt_truth (pe_call G_law_is_integer (hr.mono (by decide)) (by rfl) T.g_law_is_integer T.F_law_is_integer.kp T.b_law_is_integer .nil pass0 (pa_cons (pe_ix ix_seq (pv 4) pe_int (fun _ _ => rfl)) pa_nil)) (fun _ => rfl))) (pw_or1 (pt_not (pt_truth (pe_call G_law_is_integer (hr.mono (by decide)) (by rfl) T.g_law_is_integer T.F_law_is_integer.kp T.b_law_is_integer .nil pass0 (pa_cons (pe_ix ix_seq (pv 4) pe_int (fun _ _ => rfl)) pa_nil)) (fun _ => rfl)))))).pt
 (pss_one (ps_ret pe_bl))
 pss_nil)
 (pss_one (ps_if ((pw_or (pt_not (pt_cmpR op_lt (pe_ix ix_seq (pv 4) pe_int (fun _ _ => rfl)) (pe_ix ix_seq (pv 4) pe_int (fun _ _ => rfl)) (nomark _))) (pw_or (pt_cmpR op_notIn_seq (pe_ix ix_seq (pv 4) pe_int (fun _ _ => rfl)) (pe_ix ix_seq (pv 1) (pv 3) (fun _ _ => rfl)) (by rfl)) (pw_or1 (pt_cmpR op_notIn_seq (pe_ix ix_seq (pv 4) pe_int (fun _ _ => rfl)) (pe_ix ix_seq (pv 1) (pv 3) (fun _ _ => rfl)) (by rfl)))))).pt
 (pss_one (ps_ret pe_bl))
 pss_nil))))
 pss_nil))))
 (pss_cons (ps_for PassesOwn.never rfl (pi_seq (pe_call G_law_pairs (hr.mono (by decide)) (by rfl) T.g_law_pairs T.F_law_pairs.kp T.b_law_pairs .nil pass0 (pa_cons (pe_callB call_lenA (by rfl) T.m_len bt_len (pa_cons (pv 0) pa_nil)) pa_nil))) (pg_name (i := 4) sc_law_is_dealing.nd rfl (by first | exact Or.inl rfl | exact Or.inr rfl))
 (pss_one (ps_if (pt_cmpR op_gt (pe_callB call_lenA (by rfl) T.m_len bt_len (pa_cons (pe_lc (own := [("_law_one", 5)]) (g := (gName 5)) (tt := (tTest (tOp (rEqD K) (tVar 5) (tVar 4)))) (te := (tVar 5)) rfl sc_law_is_dealing.nd (pi_seq (pv 2)) (blkOk_by (N := N_law_is_dealing) (sc := defScope s_law_is_dealing) (by decide +kernel)) (fun _ _ _ _ _ => (pg_name (i := 5) sc_law_is_dealing.nd rfl (by first | exact Or.inl rfl | exact Or.inr rfl))) (fun _ _ _ _ _ => (pts_one (pt_cmpR (op_eqD hu) (pv 5) (pv 4) (nomark _)))) (fun _ _ _ _ _ => (pv 5))) pa_nil)) (pe_callB (call_minA rfl) (by rfl) T.m_min bt_min (pa_cons (pe_ix ix_seq (pv 0) (pe_ix ix_seq (pv 4) pe_int (fun _ _ => rfl)) (fun _ _ => rfl)) (pa_cons (pe_ix ix_seq (pv 0) (pe_ix ix_seq (pv 4) pe_int (fun _ _ => rfl)) (fun _ _ => rfl)) pa_nil))) (nomark _))
 (pss_one (ps_ret pe_bl))
 pss_nil)))
 (pss_one (ps_ret pe_bl))))), ?_⟩
  exact ((sr_seq (sr_if (tr_or (tr_not (tr_tru (er_n rc_isi (ar_cons (er_var 2) (ar_cons er_ty ar_nil))))) (tr_test (er_2 rr_ne (er_n rc_len (ar_cons (er_var 2) ar_nil)) (er_n rc_len (ar_cons (er_var 1) ar_nil)))))
 (sr_ret er_bl)
 sr_next)
 (sr_seq (sr_for (ir_rng1 (ar_cons (er_n rc_len (ar_cons (er_var 1) ar_nil)) ar_nil)) (gr'_name 3)
 (sr_seq (sr_asg (er_2 rr_ix (er_var 2) (er_var 3)) (gr'_name 4))
 (sr_if (tr_test (er_2 rr_isnt (er_var 4) er_non))
 (sr_seq (sr_if (tr_or (tr_not (tr_tru (er_n rc_isi (ar_cons (er_var 4) (ar_cons er_ty ar_nil))))) (tr_test (er_2 rr_ne (er_n rc_len (ar_cons (er_var 4) ar_nil)) er_int)))
 (sr_ret er_bl)
 sr_next)
 (sr_seq (sr_if (tr_or (tr_not (tr_tru (er_call (ar_cons (er_2 rr_ix (er_var 4) er_int) ar_nil)))) (tr_not (tr_tru (er_call (ar_cons (er_2 rr_ix (er_var 4) er_int) ar_nil)))))
 (sr_ret er_bl)
 sr_next)
 (sr_if (tr_or (tr_not (tr_test (er_2 rr_lt (er_2 rr_ix (er_var 4) er_int) (er_2 rr_ix (er_var 4) er_int)))) (tr_or (tr_test (er_2 rr_nin (er_2 rr_ix (er_var 4) er_int) (er_2 rr_ix (er_var 1) (er_var 3)))) (tr_test (er_2 rr_nin (er_2 rr_ix (er_var 4) er_int) (er_2 rr_ix (er_var 1) (er_var 3))))))
 (sr_ret er_bl)
 sr_next)))
 sr_next)))
 (sr_seq (sr_for (ir_seq (er_call (ar_cons (er_n rc_len (ar_cons (er_var 0) ar_nil)) ar_nil))) (gr'_name 4)
 (sr_if (tr_test (er_2 rr_gt (er_n rc_len (ar_cons (er_of_eo (eo_lc (vs := [5]) (ir_seq (er_var 2)) (grc_name (j := 5) (by decide)) (tr_test (er_2 rr_eq (er_var 5) (er_var 4))) (er_var 5))) ar_nil)) (er_n rc_min (ar_cons (er_2 rr_ix (er_var 0) (er_2 rr_ix (er_var 4) er_int)) (ar_cons (er_2 rr_ix (er_var 0) (er_2 rr_ix (er_var 4) er_int)) ar_nil)))))
 (sr_ret er_bl)
 sr_next))
 (sr_ret er_bl)))) : SR K _ (t_law_is_dealing))
theorem sc_law_says : FnScope N_law_says ["_law_actual", "_law_due"] (defScope s_law_says) := ⟨rfl, rfl, rfl, by decide +kernel, rfl, by decide +kernel, by decide +kernel⟩
theorem ok_law_says (T : Txt K mg) : FnOk P w K mg base CX0 1 T.f_law_says T.fd_law_says ["_law_actual", "_law_due"] (spG K 2 (g_law_says)) := by
  refine fnG (m := 0) T.F_law_says sc_law_says rfl rfl (fun cdv A outer s H E hr => ?_)
  have hu := hr.units
  refine ⟨_, (pss_cons (ps_if (pt_truth (pv 1) (fun _ => rfl))
 (pss_one (ps_ret (pe_cmpR op_isBl (pv 0) pe_bl (nomark _))))
 pss_nil)
 (pss_one (ps_ret (pe_cmpR op_isBl (pv 0) pe_bl (nomark _))))), ?_⟩
  exact ((sr_seq (sr_if (tr_tru (er_var 1))
 (sr_ret (er_2 Zg.rr_isB (er_var 0) er_bl))
 sr_next)
 (sr_ret (er_2 Zg.rr_isB (er_var 0) er_bl))) : SR K _ (t_law_says))
theorem sc_law_filled : FnScope N_law_filled ["_law_caps", "_law_holders", "_law_drawn"] (defScope s_law_filled) := ⟨rfl, rfl, rfl, by decide +kernel, rfl, by decide +kernel, by decide +kernel⟩
theorem ok_law_filled (T : Txt K mg) : FnOk P w K mg base CX0 2 T.f_law_filled T.fd_law_filled ["_law_caps", "_law_holders", "_law_drawn"] (spG K 3 (g_law_filled)) := by
  have G_law_pairs := ok_law_pairs (P := P) (w := w) (base := base) T
  refine fnG (m := 8) T.F_law_filled sc_law_filled rfl rfl (fun cdv A outer s H E hr => ?_)
  have hu := hr.units
  refine ⟨_, (pss_cons (ps_set (i := 3) sc_law_filled.nd rfl (by first | exact Or.inl rfl | exact Or.inr rfl) (pe_lst pa_nil))
 (pss_cons (ps_for PassesOwn.never rfl (pi_range1 (by rfl) T.m_range (pa_cons (pe_callB call_lenA (by rfl) T.m_len bt_len (pa_cons (pv 1) pa_nil)) pa_nil)) (pg_name (i := 4) sc_law_filled.nd rfl (by first | exact Or.inl rfl | exact Or.inr rfl))
 (pss_cons (ps_set (i := 5) sc_law_filled.nd rfl (by first | exact Or.inl rfl | exact Or.inr rfl) (pe_ix ix_seq (pv 1) (pv 4) (fun _ _ => rfl)))
 (pss_cons (ps_setLc (i := 6) (own := [("_law_pair", 9)]) (g := (gName 9)) (tt := (tAnd (tTest (tOp (rIn K false) (tOp (rIx K) (tVar 9) (tC (.int 0))) (tVar 5))) (tTest (tOp (rIn K false) (tOp (rIx K) (tVar 9) (tC (.int 1))) (tVar 5))))) (te := (tVar 9)) rfl sc_law_filled.nd rfl rfl (sw_true rfl rfl rfl (by decide +kernel)) (pi_seq (pe_call G_law_pairs (hr.mono (by decide)) (by rfl) T.g_law_pairs T.F_law_pairs.kp T.b_law_pairs .nil pass0 (pa_cons (pe_callB call_lenA (by rfl) T.m_len bt_len (pa_cons (pv 0) pa_nil)) pa_nil))) (blkOk_by (N := N_law_filled) (sc := defScope s_law_filled) (by decide +kernel)) (fun _ _ _ _ _ => (pg_name (i := 9) sc_law_filled.nd rfl (by first | exact Or.inl rfl | exact Or.inr rfl))) (fun _ _ _ _ _ => (pts_one ((pw_and (pt_cmpR op_in_seq (pe_ix ix_seq (pv 9) pe_int (fun _ _ => rfl)) (pv 5) (by rfl)) (pw_and1 (pt_cmpR op_in_seq (pe_ix ix_seq (pv 9) pe_int (fun _ _ => rfl)) (pv 5) (by rfl))))).pt)) (fun _ _ _ _ _ => (pv 9)))
 (pss_cons (ps_set (i := 7) sc_law_filled.nd rfl (by first | exact Or.inl rfl | exact Or.inr rfl) pe_non)
 (pss_cons (ps_for PassesOwn.never rfl (pi_range1 (by rfl) T.m_range (pa_cons (pe_callB call_lenA (by rfl) T.m_len bt_len (pa_cons (pv 6) pa_nil)) pa_nil)) (pg_name (i := 8) sc_law_filled.nd rfl (by first | exact Or.inl rfl | exact Or.inr rfl))
 (pss_cons (ps_set (i := 9) sc_law_filled.nd rfl (by first | exact Or.inl rfl | exact Or.inr rfl) (pe_ix ix_seq (pv 6) (pe_op op_mod (pe_callTy call_int1 (by rfl) T.m_int bt_int (pa_cons (pe_op op_addA (pe_ix ix_seq (pv 2) (pv 4) (fun _ _ => rfl)) (pv 8)) pa_nil)) (pe_callB call_lenA (by rfl) T.m_len bt_len (pa_cons (pv 6) pa_nil))) (fun _ _ => rfl)))
 (pss_one (ps_if (pt_cmpR op_lt (pe_callB call_lenA (by rfl) T.m_len bt_len (pa_cons (pe_lc (own := [("_law_one", 10)]) (g := (gName 10)) (tt := (tTest (tOp (rEqD K) (tVar 10) (tVar 9)))) (te := (tVar 10)) rfl sc_law_filled.nd (pi_seq (pv 3)) (blkOk_by (N := N_law_filled) (sc := defScope s_law_filled) (by decide +kernel)) (fun _ _ _ _ _ => (pg_name (i := 10) sc_law_filled.nd rfl (by first | exact Or.inl rfl | exact Or.inr rfl))) (fun _ _ _ _ _ => (pts_one (pt_cmpR (op_eqD hu) (pv 10) (pv 9) (nomark _)))) (fun _ _ _ _ _ => (pv 10))) pa_nil)) (pe_callB (call_minA rfl) (by rfl) T.m_min bt_min (pa_cons (pe_ix ix_seq (pv 0) (pe_ix ix_seq (pv 9) pe_int (fun _ _ => rfl)) (fun _ _ => rfl)) (pa_cons (pe_ix ix_seq (pv 0) (pe_ix ix_seq (pv 9) pe_int (fun _ _ => rfl)) (fun _ _ => rfl)) pa_nil))) (nomark _))
 (pss_cons (ps_set (i := 7) sc_law_filled.nd rfl (by first | exact Or.inl rfl | exact Or.inr rfl) (pv 9))
 (pss_one ps_break))
 pss_nil))))
 (pss_cons (ps_if (pt_cmpR (op_eqD hu) (pe_callTy call_int1 (by rfl) T.m_int bt_int (pa_cons (pe_op op_fdivW (pe_ix ix_seq (pv 2) (pv 4) (fun _ _ => rfl)) pe_int) pa_nil)) pe_int (nomark _))
 (pss_one (ps_set (i := 7) sc_law_filled.nd rfl (by first | exact Or.inl rfl | exact Or.inr rfl) pe_non))
 pss_nil)
 (pss_one (ps_expr (pe_bm PySem.F.plainAttrs_list PySem.F.slot_list_append PySem.F.type_list_append mt_append (pv 3) (pa_cons (pv 7) pa_nil))))))))))
 (pss_one (ps_ret (pv 3))))), ?_⟩
  exact ((sr_seq (sr_asgO (eo_lst ar_nil))
 (sr_seq (sr_for (ir_rng1 (ar_cons (er_n rc_len (ar_cons (er_var 1) ar_nil)) ar_nil)) (gr'_name 4)
 (sr_seq (sr_asg (er_2 rr_ix (er_var 1) (er_var 4)) (gr'_name 5))
 (sr_seq (sr_asg (er_of_eo (eo_lc (vs := [9]) (ir_seq (er_call (ar_cons (er_n rc_len (ar_cons (er_var 0) ar_nil)) ar_nil))) (grc_name (j := 9) (by decide)) (tr_and (tr_test (er_2 rr_in (er_2 rr_ix (er_var 9) er_int) (er_var 5))) (tr_test (er_2 rr_in (er_2 rr_ix (er_var 9) er_int) (er_var 5)))) (er_var 9))) (gr'_name 6))
 (sr_seq (sr_asg er_non (gr'_name 7))
 (sr_seq (sr_for (ir_rng1 (ar_cons (er_n rc_len (ar_cons (er_var 6) ar_nil)) ar_nil)) (gr'_name 8)
 (sr_seq (sr_asg (er_2 rr_ix (er_var 6) (er_2 rr_mod (er_n rc_int (ar_cons (er_2 rr_add (er_2 rr_ix (er_var 2) (er_var 4)) (er_var 8)) ar_nil)) (er_n rc_len (ar_cons (er_var 6) ar_nil)))) (gr'_name 9))
 (sr_if (tr_peek (tr_test (er_2 rr_lt (er_n rc_len (ar_cons (er_of_eo (eo_lc (vs := [10]) (ir_seq (er_var 3)) (grc_name (j := 10) (by decide)) (tr_test (er_2 rr_eq (er_var 10) (er_var 9))) (er_var 10))) ar_nil)) (er_n rc_min (ar_cons (er_2 rr_ix (er_var 0) (er_2 rr_ix (er_var 9) er_int)) (ar_cons (er_2 rr_ix (er_var 0) (er_2 rr_ix (er_var 9) er_int)) ar_nil))))))
 (sr_seq (sr_asg (er_var 9) (gr'_name 7))
 sr_break)
 sr_next)))
 (sr_seq (sr_if (tr_test (er_2 rr_eq (er_n rc_int (ar_cons (er_2 rr_fdiv (er_2 rr_ix (er_var 2) (er_var 4)) er_int) ar_nil)) er_int))
 (sr_asg er_non (gr'_name 7))
 sr_next)
 (sr_app (i := 3) (er_var 7))))))))
 (sr_retV 3))) : SR K _ (t_law_filled))
theorem sc_law_entry : FnScope N_law_entry ["_law_caps", "_law_dealing", "_law_number"] (defScope s_law_entry) := ⟨rfl, rfl, rfl, by decide +kernel, rfl, by decide +kernel, by decide +kernel⟩
theorem ok_law_entry (T : Txt K mg) : FnOk P w K mg base CX0 1 T.f_law_entry T.fd_law_entry ["_law_caps", "_law_dealing", "_law_number"] (spG K 3 (g_law_entry)) := by
  refine fnG (m := 5) T.F_law_entry sc_law_entry rfl rfl (fun cdv A outer s H E hr => ?_)
  have hu := hr.units
  refine ⟨_, (pss_cons (ps_set (i := 3) sc_law_entry.nd rfl (by first | exact Or.inl rfl | exact Or.inr rfl) (pe_callB call_lenA (by rfl) T.m_len bt_len (pa_cons (pv 0) pa_nil)))
 (pss_cons (ps_set (i := 4) sc_law_entry.nd rfl (by first | exact Or.inl rfl | exact Or.inr rfl) (pe_op op_mod (pe_callTy call_int1 (by rfl) T.m_int bt_int (pa_cons (pe_op op_fdivW (pv 2) pe_int) pa_nil)) (pv 3)))
 (pss_cons (ps_set (i := 5) sc_law_entry.nd rfl (by first | exact Or.inl rfl | exact Or.inr rfl) (pe_op op_mod (pe_callTy call_int1 (by rfl) T.m_int bt_int (pa_cons (pe_op op_fdivW (pv 2) pe_int) pa_nil)) (pv 3)))
 (pss_cons (ps_set (i := 6) sc_law_entry.nd rfl (by first | exact Or.inl rfl | exact Or.inr rfl) (pe_op op_mod (pe_callTy call_int1 (by rfl) T.m_int bt_int (pa_cons (pv 2) pa_nil)) pe_int))
 (pss_cons (ps_if (pt_cmpR (op_eqD hu) (pv 6) pe_int (nomark _))
 (pss_one (ps_ret pe_non))
 pss_nil)
 (pss_cons (ps_if (pt_cmpR (op_eqD hu) (pv 6) pe_int (nomark _))
 (pss_one (ps_ret (pe_tup (pa_cons (pv 4) (pa_cons (pv 3) pa_nil)))))
 pss_nil)
 (pss_cons (ps_if (pt_cmpR (op_eqD hu) (pv 6) pe_int (nomark _))
 (pss_one (ps_ret (pe_tup (pa_cons (pe_un un_neg pe_int) (pa_cons (pv 4) pa_nil)))))
 pss_nil)
 (pss_cons (ps_if (pt_cmpR (op_eqD hu) (pv 6) pe_int (nomark _))
 (pss_one (ps_ret (pe_tup (pa_cons (pv 4) (pa_cons (pv 4) pa_nil)))))
 pss_nil)
 (pss_cons (ps_set (i := 7) sc_law_entry.nd rfl (by first | exact Or.inl rfl | exact Or.inr rfl) (pe_ix ix_seq (pv 1) (pe_op op_mod (pe_callTy call_int1 (by rfl) T.m_int bt_int (pa_cons (pe_op op_fdivW (pv 2) pe_int) pa_nil)) (pe_callB call_lenA (by rfl) T.m_len bt_len (pa_cons (pv 1) pa_nil))) (fun _ _ => rfl)))
 (pss_cons (ps_if ((pw_or (pt_cmpR op_lt (pv 6) pe_int (nomark _)) (pw_or1 (pt_cmpR op_isN (pv 7) pe_non (nomark _))))).pt
 (pss_one (ps_ret (pe_tup (pa_cons (pe_callB (call_minA rfl) (by rfl) T.m_min bt_min (pa_cons (pv 4) (pa_cons (pv 5) pa_nil))) (pa_cons (pe_callB (call_maxA rfl) (by rfl) T.m_max bt_max (pa_cons (pv 4) (pa_cons (pv 5) pa_nil))) pa_nil)))))
 pss_nil)
 (pss_cons (ps_if (pt_cmpR (op_eqD hu) (pv 6) pe_int (nomark _))
 (pss_one (ps_ret (pe_tup (pa_cons (pe_ix ix_seq (pv 7) pe_int (fun _ _ => rfl)) (pa_cons (pe_ix ix_seq (pv 7) pe_int (fun _ _ => rfl)) pa_nil)))))
 pss_nil)
 (pss_one (ps_ret (pv 7)))))))))))))), ?_⟩
  exact ((sr_seq (sr_asg (er_n rc_len (ar_cons (er_var 0) ar_nil)) (gr'_name 3))
 (sr_seq (sr_asg (er_2 rr_mod (er_n rc_int (ar_cons (er_2 rr_fdiv (er_var 2) er_int) ar_nil)) (er_var 3)) (gr'_name 4))
 (sr_seq (sr_asg (er_2 rr_mod (er_n rc_int (ar_cons (er_2 rr_fdiv (er_var 2) er_int) ar_nil)) (er_var 3)) (gr'_name 5))
 (sr_seq (sr_asg (er_2 rr_mod (er_n rc_int (ar_cons (er_var 2) ar_nil)) er_int) (gr'_name 6))
 (sr_seq (sr_if (tr_test (er_2 rr_eq (er_var 6) er_int))
 (sr_ret er_non)
 sr_next)
 (sr_seq (sr_if (tr_test (er_2 rr_eq (er_var 6) er_int))
 (sr_ret (er_tup (ar_cons (er_var 4) (ar_cons (er_var 3) ar_nil))))
 sr_next)
 (sr_seq (sr_if (tr_test (er_2 rr_eq (er_var 6) er_int))
 (sr_ret (er_tup (ar_cons (er_1 ru_neg er_int) (ar_cons (er_var 4) ar_nil))))
 sr_next)
 (sr_seq (sr_if (tr_test (er_2 rr_eq (er_var 6) er_int))
 (sr_ret (er_tup (ar_cons (er_var 4) (ar_cons (er_var 4) ar_nil))))
 sr_next)
 (sr_seq (sr_asg (er_2 rr_ix (er_var 1) (er_2 rr_mod (er_n rc_int (ar_cons (er_2 rr_fdiv (er_var 2) er_int) ar_nil)) (er_n rc_len (ar_cons (er_var 1) ar_nil)))) (gr'_name 7))
 (sr_seq (sr_if (tr_or (tr_test (er_2 rr_lt (er_var 6) er_int)) (tr_test (er_2 rr_is (er_var 7) er_non)))
 (sr_ret (er_tup (ar_cons (er_n rc_min (ar_cons (er_var 4) (ar_cons (er_var 5) ar_nil))) (ar_cons (er_n rc_max (ar_cons (er_var 4) (ar_cons (er_var 5) ar_nil))) ar_nil))))
 sr_next)
 (sr_seq (sr_if (tr_test (er_2 rr_eq (er_var 6) er_int))
 (sr_ret (er_tup (ar_cons (er_2 rr_ix (er_var 7) er_int) (ar_cons (er_2 rr_ix (er_var 7) er_int) ar_nil))))
 sr_next)
 (sr_ret (er_var 7))))))))))))) : SR K _ (t_law_entry))
theorem sc_law_is_lot : FnScope N_law_is_lot ["_law_lot", "_law_many"] (defScope s_law_is_lot) := ⟨rfl, rfl, rfl, by decide +kernel, rfl, by decide +kernel, by decide +kernel⟩
theorem ok_law_is_lot (T : Txt K mg) : FnOk P w K mg base CX0 1 T.f_law_is_lot T.fd_law_is_lot ["_law_lot", "_law_many"] (spG K 2 (g_law_is_lot)) := by
  refine fnG (m := 1) T.F_law_is_lot sc_law_is_lot rfl rfl (fun cdv A outer s H E hr => ?_)
  have hu := hr.units
  refine ⟨_, (pss_cons (ps_for PassesOwn.never rfl (pi_range1 (by rfl) T.m_range (pa_cons (pe_callB call_lenA (by rfl) T.m_len bt_len (pa_cons (pv 0) pa_nil)) pa_nil)) (pg_name (i := 2) sc_law_is_lot.nd rfl (by first | exact Or.inl rfl | exact Or.inr rfl))
 (pss_one (ps_if ((pw_or (pt_cmpR op_lt (pe_ix ix_seq (pv 0) (pv 2) (fun _ _ => rfl)) pe_int (nomark _)) (pw_or (pt_cmpR op_ge (pe_ix ix_seq (pv 0) (pv 2) (fun _ _ => rfl)) (pv 1) (nomark _)) (pw_or1 ((pw_and (pt_cmpR op_gt (pv 2) pe_int (nomark _)) (pw_and1 (pt_cmpR op_ge (pe_ix ix_seq (pv 0) (pe_op op_sub (pv 2) pe_int) (fun _ _ => rfl)) (pe_ix ix_seq (pv 0) (pv 2) (fun _ _ => rfl)) (nomark _))))).pt)))).pt
 (pss_one (ps_ret pe_bl))
 pss_nil)))
 (pss_one (ps_ret pe_bl))), ?_⟩
  exact ((sr_seq (sr_for (ir_rng1 (ar_cons (er_n rc_len (ar_cons (er_var 0) ar_nil)) ar_nil)) (gr'_name 2)
 (sr_if (tr_or (tr_test (er_2 rr_lt (er_2 rr_ix (er_var 0) (er_var 2)) er_int)) (tr_or (tr_test (er_2 rr_ge (er_2 rr_ix (er_var 0) (er_var 2)) (er_var 1))) (tr_and (tr_test (er_2 rr_gt (er_var 2) er_int)) (tr_test (er_2 rr_ge (er_2 rr_ix (er_var 0) (er_2 rr_sub (er_var 2) er_int)) (er_2 rr_ix (er_var 0) (er_var 2)))))))
 (sr_ret er_bl)
 sr_next))
 (sr_ret er_bl)) : SR K _ (t_law_is_lot))
theorem sc_law_spoilt : FnScope N_law_spoilt ["_law_lot", "_law_many", "_law_way", "_law_spot", "_law_pick"] (defScope s_law_spoilt) := ⟨rfl, rfl, rfl, by decide +kernel, rfl, by decide +kernel, by decide +kernel⟩
theorem ok_law_spoilt (T : Txt K mg) : FnOk P w K mg base CX0 1 T.f_law_spoilt T.fd_law_spoilt ["_law_lot", "_law_many", "_law_way", "_law_spot", "_law_pick"] (spG K 5 (g_law_spoilt)) := by
  refine fnG (m := 2) T.F_law_spoilt sc_law_spoilt rfl rfl (fun cdv A outer s H E hr => ?_)
  have hu := hr.units
  refine ⟨_, (pss_cons (ps_if (pt_cmpR op_gt (pv 2) pe_int (nomark _))
 (pss_one (ps_ret (pe_callTy call_list_of (by rfl) T.m_list bt_list (pa_cons (pv 0) pa_nil))))
 pss_nil)
 (pss_cons (ps_if ((pw_and (pt_cmpR (op_eqD hu) (pv 2) pe_int (nomark _)) (pw_and1 (pt_cmpR op_gt (pe_callB call_lenA (by rfl) T.m_len bt_len (pa_cons (pv 0) pa_nil)) pe_int (nomark _))))).pt
 (pss_cons (ps_set (i := 5) sc_law_spoilt.nd rfl (by first | exact Or.inl rfl | exact Or.inr rfl) (pe_op op_mod (pe_callTy call_int1 (by rfl) T.m_int bt_int (pa_cons (pv 3) pa_nil)) (pe_op op_sub (pe_callB call_lenA (by rfl) T.m_len bt_len (pa_cons (pv 0) pa_nil)) pe_int)))
 (pss_one (ps_ret (pe_op op_addA (pe_op op_addA (pe_slice sl_list (pv 0) po_none (po_some (pv 5))) (pe_lst (pa_cons (pe_ix ix_seq (pv 0) (pe_op op_addA (pv 5) pe_int) (fun _ _ => rfl)) (pa_cons (pe_ix ix_seq (pv 0) (pv 5) (fun _ _ => rfl)) pa_nil)))) (pe_slice sl_list (pv 0) (po_some (pe_op op_addA (pv 5) pe_int)) po_none)))))
 pss_nil)
 (pss_cons (ps_set (i := 6) sc_law_spoilt.nd rfl (by first | exact Or.inl rfl | exact Or.inr rfl) (pe_ix ix_seq (pe_tup (pa_cons (pv 1) (pa_cons (pe_un un_neg pe_int) (pa_cons (pe_op op_addA (pv 1) pe_int) (pa_cons (pe_un un_neg (pv 1)) (pa_cons pe_int pa_nil)))))) (pv 2) (fun _ _ => rfl)))
 (pss_cons (ps_if ((pw_and (pt_cmpR op_gt (pv 2) pe_int (nomark _)) (pw_and1 (pt_cmpR op_gt (pe_callB call_lenA (by rfl) T.m_len bt_len (pa_cons (pv 0) pa_nil)) pe_int (nomark _))))).pt
 (pss_one (ps_set (i := 6) sc_law_spoilt.nd rfl (by first | exact Or.inl rfl | exact Or.inr rfl) (pe_ix ix_seq (pv 0) (pe_op op_mod (pe_callTy call_int1 (by rfl) T.m_int bt_int (pa_cons (pv 4) pa_nil)) (pe_callB call_lenA (by rfl) T.m_len bt_len (pa_cons (pv 0) pa_nil))) (fun _ _ => rfl))))
 pss_nil)
 (pss_cons (ps_set (i := 5) sc_law_spoilt.nd rfl (by first | exact Or.inl rfl | exact Or.inr rfl) (pe_op op_mod (pe_callTy call_int1 (by rfl) T.m_int bt_int (pa_cons (pv 3) pa_nil)) (pe_op op_addA (pe_callB call_lenA (by rfl) T.m_len bt_len (pa_cons (pv 0) pa_nil)) pe_int)))
 (pss_one (ps_ret (pe_op op_addA (pe_op op_addA (pe_slice sl_list (pv 0) po_none (po_some (pv 5))) (pe_lst (pa_cons (pv 6) pa_nil))) (pe_slice sl_list (pv 0) (po_some (pv 5)) po_none))))))))), ?_⟩
  exact ((sr_seq (sr_if (tr_test (er_2 rr_gt (er_var 2) er_int))
 (sr_ret (er_n rc_list (ar_cons (er_var 0) ar_nil)))
 sr_next)
 (sr_seq (sr_if (tr_and (tr_test (er_2 rr_eq (er_var 2) er_int)) (tr_test (er_2 rr_gt (er_n rc_len (ar_cons (er_var 0) ar_nil)) er_int)))
 (sr_seq (sr_asg (er_2 rr_mod (er_n rc_int (ar_cons (er_var 3) ar_nil)) (er_2 rr_sub (er_n rc_len (ar_cons (er_var 0) ar_nil)) er_int)) (gr'_name 5))
 (sr_ret (er_2 rr_add (er_2 rr_add (er_sl (er_var 0) or_none (or_some (er_var 5))) (er_lst (ar_cons (er_2 rr_ix (er_var 0) (er_2 rr_add (er_var 5) er_int)) (ar_cons (er_2 rr_ix (er_var 0) (er_var 5)) ar_nil)))) (er_sl (er_var 0) (or_some (er_2 rr_add (er_var 5) er_int)) or_none))))
 sr_next)
 (sr_seq (sr_asg (er_2 rr_ix (er_tup (ar_cons (er_var 1) (ar_cons (er_1 ru_neg er_int) (ar_cons (er_2 rr_add (er_var 1) er_int) (ar_cons (er_1 ru_neg (er_var 1)) (ar_cons er_int ar_nil)))))) (er_var 2)) (gr'_name 6))
 (sr_seq (sr_if (tr_and (tr_test (er_2 rr_gt (er_var 2) er_int)) (tr_test (er_2 rr_gt (er_n rc_len (ar_cons (er_var 0) ar_nil)) er_int)))
 (sr_asg (er_2 rr_ix (er_var 0) (er_2 rr_mod (er_n rc_int (ar_cons (er_var 4) ar_nil)) (er_n rc_len (ar_cons (er_var 0) ar_nil)))) (gr'_name 6))
 sr_next)
 (sr_seq (sr_asg (er_2 rr_mod (er_n rc_int (ar_cons (er_var 3) ar_nil)) (er_2 rr_add (er_n rc_len (ar_cons (er_var 0) ar_nil)) er_int)) (gr'_name 5))
 (sr_ret (er_2 rr_add (er_2 rr_add (er_sl (er_var 0) or_none (or_some (er_var 5))) (er_lst (ar_cons (er_var 6) ar_nil))) (er_sl (er_var 0) (or_some (er_var 5)) or_none)))))))) : SR K _ (t_law_spoilt))
theorem sc_law_drawn_dealing : FnScope N_law_drawn_dealing ["_law_caps", "_law_holders", "_law_drawn", "_law_more"] (defScope s_law_drawn_dealing) := ⟨rfl, rfl, rfl, by decide +kernel, rfl, by decide +kernel, by decide +kernel⟩
theorem ok_law_drawn_dealing (T : Txt K mg) : FnOk P w K mg base CX0 3 T.f_law_drawn_dealing T.fd_law_drawn_dealing ["_law_caps", "_law_holders", "_law_drawn", "_law_more"] (spG K 4 (g_law_drawn_dealing)) := by
  have G_law_filled := ok_law_filled (P := P) (w := w) (base := base) T
  have G_law_entry := ok_law_entry (P := P) (w := w) (base := base) T
  have G_law_pairs := ok_law_pairs (P := P) (w := w) (base := base) T
  refine fnG (m := 7) T.F_law_drawn_dealing sc_law_drawn_dealing rfl rfl (fun cdv A outer s H E hr => ?_)
  have hu := hr.units
  refine ⟨_, (pss_cons (ps_set (i := 4) sc_law_drawn_dealing.nd rfl (by first | exact Or.inl rfl | exact Or.inr rfl) (pe_call G_law_filled (hr.mono (by decide)) (by rfl) T.g_law_filled T.F_law_filled.kp T.b_law_filled .nil pass0 (pa_cons (pv 0) (pa_cons (pv 1) (pa_cons (pv 3) pa_nil)))))
 (pss_cons (ps_set (i := 5) sc_law_drawn_dealing.nd rfl (by first | exact Or.inl rfl | exact Or.inr rfl) (pe_callB call_lenA (by rfl) T.m_len bt_len (pa_cons (pv 4) pa_nil)))
 (pss_cons (ps_if ((pw_and (pt_cmpR (op_eqD hu) (pe_ix ix_seq (pv 2) pe_int (fun _ _ => rfl)) pe_int (nomark _)) (pw_and1 (pt_cmpR op_gt (pv 5) pe_int (nomark _))))).pt
 (pss_one (ps_asg (pe_call G_law_entry (hr.mono (by decide)) (by rfl) T.g_law_entry T.F_law_entry.kp T.b_law_entry .nil pass0 (pa_cons (pv 0) (pa_cons (pv 4) (pa_cons (pe_ix ix_seq (pv 2) pe_int (fun _ _ => rfl)) pa_nil)))) (pg_sub (pv 4) (pe_op op_mod (pe_callTy call_int1 (by rfl) T.m_int bt_int (pa_cons (pe_ix ix_seq (pv 2) pe_int (fun _ _ => rfl)) pa_nil)) (pv 5)) set_list)))
 pss_nil)
 (pss_cons (ps_if ((pw_and (pt_cmpR (op_eqD hu) (pe_ix ix_seq (pv 2) pe_int (fun _ _ => rfl)) pe_int (nomark _)) (pw_and1 (pt_cmpR op_gt (pe_callB call_lenA (by rfl) T.m_len bt_len (pa_cons (pv 0) pa_nil)) pe_int (nomark _))))).pt
 (pss_cons (ps_set (i := 6) sc_law_drawn_dealing.nd rfl (by first | exact Or.inl rfl | exact Or.inr rfl) (pe_call G_law_pairs (hr.mono (by decide)) (by rfl) T.g_law_pairs T.F_law_pairs.kp T.b_law_pairs .nil pass0 (pa_cons (pe_callB call_lenA (by rfl) T.m_len bt_len (pa_cons (pv 0) pa_nil)) pa_nil)))
 (pss_cons (ps_set (i := 7) sc_law_drawn_dealing.nd rfl (by first | exact Or.inl rfl | exact Or.inr rfl) (pe_ix ix_seq (pv 6) (pe_op op_mod (pe_callTy call_int1 (by rfl) T.m_int bt_int (pa_cons (pe_ix ix_seq (pv 2) pe_int (fun _ _ => rfl)) pa_nil)) (pe_callB call_lenA (by rfl) T.m_len bt_len (pa_cons (pv 6) pa_nil))) (fun _ _ => rfl)))
 (pss_cons (ps_set (i := 8) sc_law_drawn_dealing.nd rfl (by first | exact Or.inl rfl | exact Or.inr rfl) (pe_op op_addA (pe_callB (call_minA rfl) (by rfl) T.m_min bt_min (pa_cons (pe_ix ix_seq (pv 0) (pe_ix ix_seq (pv 7) pe_int (fun _ _ => rfl)) (fun _ _ => rfl)) (pa_cons (pe_ix ix_seq (pv 0) (pe_ix ix_seq (pv 7) pe_int (fun _ _ => rfl)) (fun _ _ => rfl)) pa_nil))) (pe_ix ix_seq (pv 2) pe_int (fun _ _ => rfl))))
 (pss_cons (ps_set (i := 4) sc_law_drawn_dealing.nd rfl (by first | exact Or.inl rfl | exact Or.inr rfl) (pe_lst pa_nil))
 (pss_one (ps_for PassesOwn.never rfl (pi_seq (pv 1)) (pg_name (i := 9) sc_law_drawn_dealing.nd rfl (by first | exact Or.inl rfl | exact Or.inr rfl))
 (pss_one (ps_if ((pw_and (pt_cmpR op_gt (pv 8) pe_int (nomark _)) (pw_and (pt_cmpR op_in_seq (pe_ix ix_seq (pv 7) pe_int (fun _ _ => rfl)) (pv 9) (by rfl)) (pw_and1 (pt_cmpR op_in_seq (pe_ix ix_seq (pv 7) pe_int (fun _ _ => rfl)) (pv 9) (by rfl)))))).pt
 (pss_cons (ps_expr (pe_bm PySem.F.plainAttrs_list PySem.F.slot_list_append PySem.F.type_list_append mt_append (pv 4) (pa_cons (pv 7) pa_nil)))
 (pss_one (ps_set (i := 8) sc_law_drawn_dealing.nd rfl (by first | exact Or.inl rfl | exact Or.inr rfl) (pe_op op_sub (pv 8) pe_int))))
 (pss_one (ps_expr (pe_bm PySem.F.plainAttrs_list PySem.F.slot_list_append PySem.F.type_list_append mt_append (pv 4) (pa_cons pe_non pa_nil))))))))))))
 pss_nil)
 (pss_cons (ps_if (pt_cmpR (op_eqD hu) (pe_ix ix_seq (pv 2) pe_int (fun _ _ => rfl)) pe_int (nomark _))
 (pss_one (ps_set (i := 4) sc_law_drawn_dealing.nd rfl (by first | exact Or.inl rfl | exact Or.inr rfl) (pe_lc (own := [("_law_p", 10)]) (g := (gName 10)) (tt := tYes) (te := (tCall (spG K 3 (g_law_entry)) [] E0 (tCons (tVar 0) (tCons (tVar 4) (tCons (tOp (rIx K) (tVar 3) (tOp _ (tC (.int 24)) (tVar 10))) tNil))))) rfl sc_law_drawn_dealing.nd (pi_range1 (by rfl) T.m_range (pa_cons (pv 5) pa_nil)) (blkOk_by (N := N_law_drawn_dealing) (sc := defScope s_law_drawn_dealing) (by decide +kernel)) (fun _ _ _ _ _ => (pg_name (i := 10) sc_law_drawn_dealing.nd rfl (by first | exact Or.inl rfl | exact Or.inr rfl))) (fun _ _ _ _ _ => pts_nil) (fun _ _ _ _ _ => (pe_call G_law_entry (hr.mono (by decide)) (by rfl) T.g_law_entry T.F_law_entry.kp T.b_law_entry .nil pass0 (pa_cons (pv 0) (pa_cons (pv 4) (pa_cons (pe_ix ix_seq (pv 3) (pe_op op_addA pe_int (pv 10)) (fun _ _ => rfl)) pa_nil))))))))
 pss_nil)
 (pss_cons (ps_if (pt_cmpR (op_eqD hu) (pe_ix ix_seq (pv 2) pe_int (fun _ _ => rfl)) pe_int (nomark _))
 (pss_one (ps_set (i := 4) sc_law_drawn_dealing.nd rfl (by first | exact Or.inl rfl | exact Or.inr rfl) (pe_slice sl_list (pv 4) po_none (po_some (pe_callB (call_maxA rfl) (by rfl) T.m_max bt_max (pa_cons pe_int (pa_cons (pe_op op_sub (pv 5) pe_int) pa_nil)))))))
 pss_nil)
 (pss_cons (ps_if (pt_cmpR (op_eqD hu) (pe_ix ix_seq (pv 2) pe_int (fun _ _ => rfl)) pe_int (nomark _))
 (pss_one (ps_set (i := 4) sc_law_drawn_dealing.nd rfl (by first | exact Or.inl rfl | exact Or.inr rfl) (pe_op op_addA (pv 4) (pe_lst (pa_cons pe_non pa_nil)))))
 pss_nil)
 (pss_one (ps_ret (pv 4)))))))))), ?_⟩
  exact ((sr_seq (sr_asgO (eo_call (ar_cons (er_var 0) (ar_cons (er_var 1) (ar_cons (er_var 3) ar_nil)))))
 (sr_seq (sr_asg (er_peekF (er_n rc_len (ar_cons (er_var 4) ar_nil))) (gr'_name 5))
 (sr_seq (sr_if (tr_and (tr_test (er_2 rr_eq (er_2 rr_ix (er_var 2) er_int) er_int)) (tr_test (er_2 rr_gt (er_var 5) er_int)))
 (sr_setI (i := 4) (er_2 rr_mod (er_n rc_int (ar_cons (er_2 rr_ix (er_var 2) er_int) ar_nil)) (er_var 5)) (Zg.er_peekS (er_call (ar_cons (er_var 0) (ar_cons (er_var 4) (ar_cons (er_2 rr_ix (er_var 2) er_int) ar_nil))))))
 sr_next)
 (sr_seq (sr_if (tr_and (tr_test (er_2 rr_eq (er_2 rr_ix (er_var 2) er_int) er_int)) (tr_test (er_2 rr_gt (er_n rc_len (ar_cons (er_var 0) ar_nil)) er_int)))
 (sr_seq (sr_asg (er_call (ar_cons (er_n rc_len (ar_cons (er_var 0) ar_nil)) ar_nil)) (gr'_name 6))
 (sr_seq (sr_asg (er_2 rr_ix (er_var 6) (er_2 rr_mod (er_n rc_int (ar_cons (er_2 rr_ix (er_var 2) er_int) ar_nil)) (er_n rc_len (ar_cons (er_var 6) ar_nil)))) (gr'_name 7))
 (sr_seq (sr_asg (er_2 rr_add (er_n rc_min (ar_cons (er_2 rr_ix (er_var 0) (er_2 rr_ix (er_var 7) er_int)) (ar_cons (er_2 rr_ix (er_var 0) (er_2 rr_ix (er_var 7) er_int)) ar_nil))) (er_2 rr_ix (er_var 2) er_int)) (gr'_name 8))
 (sr_seq (sr_asgO (eo_lst ar_nil))
 (sr_for (ir_seq (er_var 1)) (gr'_name 9)
 (sr_if (tr_and (tr_test (er_2 rr_gt (er_var 8) er_int)) (tr_and (tr_test (er_2 rr_in (er_2 rr_ix (er_var 7) er_int) (er_var 9))) (tr_test (er_2 rr_in (er_2 rr_ix (er_var 7) er_int) (er_var 9)))))
 (sr_seq (sr_app (i := 4) (er_var 7))
 (sr_asg (er_2 rr_sub (er_var 8) er_int) (gr'_name 8)))
 (sr_app (i := 4) er_non)))))))
 sr_next)
 (sr_seq (sr_if (tr_test (er_2 rr_eq (er_2 rr_ix (er_var 2) er_int) er_int))
 (sr_frz [4] (sr_asgO (eo_lc (vs := [10]) (ir_rng1 (ar_cons (er_var 5) ar_nil)) (grc_name (j := 10) (by decide)) tr_yes (er_call (ar_cons (er_var 0) (ar_cons (er_var 4) (ar_cons (er_2 rr_ix (er_var 3) (er_2 rr_add er_int (er_var 10))) ar_nil)))))))
 sr_next)
 (sr_seq (sr_if (tr_test (er_2 rr_eq (er_2 rr_ix (er_var 2) er_int) er_int))
 (sr_frz [4] (sr_asg (er_sl (er_var 4) or_none (or_some (er_n rc_max (ar_cons er_int (ar_cons (er_2 rr_sub (er_var 5) er_int) ar_nil))))) (gr'_name 4)))
 sr_next)
 (sr_seq (sr_if (tr_test (er_2 rr_eq (er_2 rr_ix (er_var 2) er_int) er_int))
 (sr_frz [4] (sr_asg (er_2 rr_add (er_var 4) (er_lst (ar_cons er_non ar_nil))) (gr'_name 4)))
 sr_next)
 (sr_frz [4] (sr_ret (er_var 4)))))))))) : SR K _ (t_law_drawn_dealing))
theorem sc_law_asks_dealing : FnScope N_law_asks_dealing ["_law_pool_here", "_law_caps", "_law_holders", "_law_dealing", "_law_drawn"] (defScope s_law_asks_dealing) := ⟨rfl, rfl, rfl, by decide +kernel, rfl, by decide +kernel, by decide +kernel⟩
theorem ok_law_asks_dealing (T : Txt K mg) : Zg.FnG P w K mg base 5 T.f_law_asks_dealing T.fd_law_asks_dealing ["_law_pool_here", "_law_caps", "_law_holders", "_law_dealing", "_law_drawn"] (spG K 5 (g_law_asks_dealing T.c)) := by
  have G_law_is_dealing := ok_law_is_dealing (P := P) (w := w) (base := base) T
  have G_is_dealing := ok_is_dealing (P := P) (w := w) (base := base) T
  have G_law_says := ok_law_says (P := P) (w := w) (base := base) T
  have G_Pool_init := ok_Pool_init (P := P) (w := w) (base := base) T
  have G_law_entry := ok_law_entry (P := P) (w := w) (base := base) T
  have G_law_is_pool := ok_law_is_pool (P := P) (w := w) (base := base) T
  refine Zg.fnGG (m := 6) T.F_law_asks_dealing sc_law_asks_dealing rfl rfl (fun cdv A hgd outer s H E hr => ?_)
  have hu := hr.units
  refine ⟨_, (pss_cons (ps_set (i := 5) sc_law_asks_dealing.nd rfl (by first | exact Or.inl rfl | exact Or.inr rfl) (pe_call G_law_is_dealing (hr.mono (by decide)) (by rfl) T.g_law_is_dealing T.F_law_is_dealing.kp T.b_law_is_dealing .nil pass0 (pa_cons (pv 1) (pa_cons (pv 2) (pa_cons (pv 3) pa_nil)))))
 (pss_cons (ps_set (i := 6) sc_law_asks_dealing.nd rfl (by first | exact Or.inl rfl | exact Or.inr rfl) (pe_callTy call_list_of (by rfl) T.m_list bt_list (pa_cons (pv 3) pa_nil)))
 (pss_cons (ps_if ((pw_or (pt_not (pt_truth (pe_call G_law_says (hr.mono (by decide)) (by rfl) T.g_law_says T.F_law_says.kp T.b_law_says .nil pass0 (pa_cons (pe_call G_is_dealing (hr.mono (by decide)) (by rfl) T.g_is_dealing T.F_is_dealing.kp T.b_is_dealing .nil pass0 (pa_cons (pv 0) (pa_cons (pv 6) pa_nil))) (pa_cons (pv 5) pa_nil))) (fun _ => rfl))) (pw_or1 (pt_cmpR (op_neD hu) (pe_callB (Zg.call_repr hgd hu) (by rfl) T.m_repr bt_repr (pa_cons (pv 6) pa_nil)) (pe_callB (Zg.call_repr hgd hu) (by rfl) T.m_repr bt_repr (pa_cons (pv 3) pa_nil)) (nomark _))))).pt
 (pss_one (ps_ret pe_bl))
 pss_nil)
 (pss_cons (ps_setLc (i := 7) (own := [("_law_cap", 9)]) (g := (gName 9)) (tt := tYes) (te := (tCB (rMaxA K) (tCons (tC (.int 0)) (tCons (tOp _ (tVar 9) (tC (.int 1))) tNil)))) rfl sc_law_asks_dealing.nd rfl rfl (sw_true rfl rfl rfl (by decide +kernel)) (pi_seq (pv 1)) (blkOk_by (N := N_law_asks_dealing) (sc := defScope s_law_asks_dealing) (by decide +kernel)) (fun _ _ _ _ _ => (pg_name (i := 9) sc_law_asks_dealing.nd rfl (by first | exact Or.inl rfl | exact Or.inr rfl))) (fun _ _ _ _ _ => pts_nil) (fun _ _ _ _ _ => (pe_callB (call_maxA rfl) (by rfl) T.m_max bt_max (pa_cons pe_int (pa_cons (pe_op op_sub (pv 9) pe_int) pa_nil)))))
 (pss_cons (ps_set (i := 8) sc_law_asks_dealing.nd rfl (by first | exact Or.inl rfl | exact Or.inr rfl) (pe_make T.M_Pool G_Pool_init (hr.mono (by decide)) (by rfl) T.c_Pool T.b_Pool_init .nil pass0 (pa_cons (pe_callTy call_list_of (by rfl) T.m_list bt_list (pa_cons (pv 7) pa_nil)) (pa_cons (pe_lc (own := [("_law_row", 10)]) (g := (gName 10)) (tt := tYes) (te := (tCB (rListOf K) (tCons (tVar 10) tNil))) rfl sc_law_asks_dealing.nd (pi_seq (pv 2)) (blkOk_by (N := N_law_asks_dealing) (sc := defScope s_law_asks_dealing) (by decide +kernel)) (fun _ _ _ _ _ => (pg_name (i := 10) sc_law_asks_dealing.nd rfl (by first | exact Or.inl rfl | exact Or.inr rfl))) (fun _ _ _ _ _ => pts_nil) (fun _ _ _ _ _ => (pe_callTy call_list_of (by rfl) T.m_list bt_list (pa_cons (pv 10) pa_nil)))) pa_nil))))
 (pss_cons (ps_if (pt_not (pt_truth (pe_call G_law_says (hr.mono (by decide)) (by rfl) T.g_law_says T.F_law_says.kp T.b_law_says .nil pass0 (pa_cons (pe_call G_is_dealing (hr.mono (by decide)) (by rfl) T.g_is_dealing T.F_is_dealing.kp T.b_is_dealing .nil pass0 (pa_cons (pv 8) (pa_cons (pv 6) pa_nil))) (pa_cons (pe_call G_law_is_dealing (hr.mono (by decide)) (by rfl) T.g_law_is_dealing T.F_law_is_dealing.kp T.b_law_is_dealing .nil pass0 (pa_cons (pv 7) (pa_cons (pv 2) (pa_cons (pv 3) pa_nil)))) pa_nil))) (fun _ => rfl)))
 (pss_one (ps_ret pe_bl))
 pss_nil)
 (pss_cons (ps_if (pt_cmpR op_gt (pe_callB call_lenA (by rfl) T.m_len bt_len (pa_cons (pv 6) pa_nil)) pe_int (nomark _))
 (pss_one (ps_asg (pe_call G_law_entry (hr.mono (by decide)) (by rfl) T.g_law_entry T.F_law_entry.kp T.b_law_entry .nil pass0 (pa_cons (pv 1) (pa_cons (pv 3) (pa_cons (pe_ix ix_seq (pv 4) pe_int (fun _ _ => rfl)) pa_nil)))) (pg_sub (pv 6) (pe_op op_mod (pe_callTy call_int1 (by rfl) T.m_int bt_int (pa_cons (pe_ix ix_seq (pv 4) pe_int (fun _ _ => rfl)) pa_nil)) (pe_callB call_lenA (by rfl) T.m_len bt_len (pa_cons (pv 6) pa_nil))) set_list)))
 (pss_one (ps_expr (pe_bm PySem.F.plainAttrs_list PySem.F.slot_list_append PySem.F.type_list_append mt_append (pv 6) (pa_cons pe_non pa_nil)))))
 (pss_cons (ps_if (pt_not (pt_truth (pe_call G_law_says (hr.mono (by decide)) (by rfl) T.g_law_says T.F_law_says.kp T.b_law_says .nil pass0 (pa_cons (pe_call G_is_dealing (hr.mono (by decide)) (by rfl) T.g_is_dealing T.F_is_dealing.kp T.b_is_dealing .nil pass0 (pa_cons (pv 0) (pa_cons (pv 6) pa_nil))) (pa_cons (pe_call G_law_is_dealing (hr.mono (by decide)) (by rfl) T.g_law_is_dealing T.F_law_is_dealing.kp T.b_law_is_dealing .nil pass0 (pa_cons (pv 1) (pa_cons (pv 2) (pa_cons (pv 6) pa_nil)))) pa_nil))) (fun _ => rfl)))
 (pss_one (ps_ret pe_bl))
 pss_nil)
 (pss_one (ps_ret (pe_and (pe_call G_law_says (hr.mono (by decide)) (by rfl) T.g_law_says T.F_law_says.kp T.b_law_says .nil pass0 (pa_cons (pe_call G_is_dealing (hr.mono (by decide)) (by rfl) T.g_is_dealing T.F_is_dealing.kp T.b_is_dealing .nil pass0 (pa_cons (pv 0) (pa_cons (pe_callTy call_list_of (by rfl) T.m_list bt_list (pa_cons (pv 3) pa_nil)) pa_nil))) (pa_cons (pv 5) pa_nil))) (pe_one (pe_call G_law_is_pool (hr.mono (by decide)) (by rfl) T.g_law_is_pool T.F_law_is_pool.kp T.b_law_is_pool .nil pass0 (pa_cons (pv 0) (pa_cons (pv 1) (pa_cons (pv 2) pa_nil)))))))))))))))), ?_⟩
  exact ((sr_seq (sr_asg (er_call (ar_cons (er_var 1) (ar_cons (er_var 2) (ar_cons (er_var 3) ar_nil)))) (gr'_name 5))
 (sr_seq (sr_asgO (eo_list (er_var 3)))
 (sr_seq (sr_if (tr_peek (tr_or (tr_not (tr_tru (er_call (ar_cons (er_call (ar_cons (er_var 0) (ar_cons (er_var 6) ar_nil))) (ar_cons (er_var 5) ar_nil))))) (tr_test (er_2 rr_ne (er_n Zg.rc_repr (ar_cons (er_var 6) ar_nil)) (er_n Zg.rc_repr (ar_cons (er_var 3) ar_nil))))))
 (sr_ret er_bl)
 sr_next)
 (sr_seq (sr_asg (er_of_eo (eo_lc (vs := [9]) (ir_seq (er_var 1)) (grc_name (j := 9) (by decide)) tr_yes (er_n rc_max (ar_cons er_int (ar_cons (er_2 rr_sub (er_var 9) er_int) ar_nil))))) (gr'_name 7))
 (sr_seq (sr_asg (er_of_eo (eo_make (ar_cons (er_n rc_list (ar_cons (er_var 7) ar_nil)) (ar_cons (er_of_eo (eo_lc (vs := [10]) (ir_seq (er_var 2)) (grc_name (j := 10) (by decide)) tr_yes (er_n rc_list (ar_cons (er_var 10) ar_nil)))) ar_nil)))) (gr'_name 8))
 (sr_seq (sr_if (tr_peek (tr_not (tr_tru (er_call (ar_cons (er_call (ar_cons (er_var 8) (ar_cons (er_var 6) ar_nil))) (ar_cons (er_call (ar_cons (er_var 7) (ar_cons (er_var 2) (ar_cons (er_var 3) ar_nil)))) ar_nil))))))
 (sr_ret er_bl)
 sr_next)
 (sr_seq (sr_if (tr_peek (tr_test (er_2 rr_gt (er_n rc_len (ar_cons (er_var 6) ar_nil)) er_int)))
 (sr_setI (i := 6) (er_peekF (er_2 rr_mod (er_n rc_int (ar_cons (er_2 rr_ix (er_var 4) er_int) ar_nil)) (er_n rc_len (ar_cons (er_var 6) ar_nil)))) (er_call (ar_cons (er_var 1) (ar_cons (er_var 3) (ar_cons (er_2 rr_ix (er_var 4) er_int) ar_nil)))))
 (sr_app (i := 6) er_non))
 (sr_seq (sr_if (tr_peek (tr_not (tr_tru (er_call (ar_cons (er_call (ar_cons (er_var 0) (ar_cons (er_var 6) ar_nil))) (ar_cons (er_call (ar_cons (er_var 1) (ar_cons (er_var 2) (ar_cons (er_var 6) ar_nil)))) ar_nil))))))
 (sr_ret er_bl)
 sr_next)
 (sr_ret (er_and (er_call (ar_cons (er_call (ar_cons (er_var 0) (ar_cons (er_n rc_list (ar_cons (er_var 3) ar_nil)) ar_nil))) (ar_cons (er_var 5) ar_nil))) (er_call (ar_cons (er_var 0) (ar_cons (er_var 1) (ar_cons (er_var 2) ar_nil)))))))))))))) : SR K _ (t_law_asks_dealing T.c))
theorem sc_law_asks_lot : FnScope N_law_asks_lot ["_law_pool_here", "_law_many", "_law_lot", "_law_extra"] (defScope s_law_asks_lot) := ⟨rfl, rfl, rfl, by decide +kernel, rfl, by decide +kernel, by decide +kernel⟩
theorem ok_law_asks_lot (T : Txt K mg) : Zg.FnG P w K mg base 3 T.f_law_asks_lot T.fd_law_asks_lot ["_law_pool_here", "_law_many", "_law_lot", "_law_extra"] (spG K 4 (g_law_asks_lot T.c)) := by
  have G_law_is_lot := ok_law_is_lot (P := P) (w := w) (base := base) T
  have G_is_lot := ok_is_lot (P := P) (w := w) (base := base) T
  have G_law_says := ok_law_says (P := P) (w := w) (base := base) T
  refine Zg.fnGG (m := 2) T.F_law_asks_lot sc_law_asks_lot rfl rfl (fun cdv A hgd outer s H E hr => ?_)
  have hu := hr.units
  refine ⟨_, (pss_cons (ps_set (i := 4) sc_law_asks_lot.nd rfl (by first | exact Or.inl rfl | exact Or.inr rfl) (pe_callTy call_list_of (by rfl) T.m_list bt_list (pa_cons (pv 2) pa_nil)))
 (pss_cons (ps_set (i := 5) sc_law_asks_lot.nd rfl (by first | exact Or.inl rfl | exact Or.inr rfl) (pe_call G_law_is_lot (hr.mono (by decide)) (by rfl) T.g_law_is_lot T.F_law_is_lot.kp T.b_law_is_lot .nil pass0 (pa_cons (pv 2) (pa_cons (pv 1) pa_nil))))
 (pss_cons (ps_if ((pw_or (pt_not (pt_truth (pe_call G_law_says (hr.mono (by decide)) (by rfl) T.g_law_says T.F_law_says.kp T.b_law_says .nil pass0 (pa_cons (pe_call G_is_lot (hr.mono (by decide)) (by rfl) T.g_is_lot T.F_is_lot.kp T.b_is_lot .nil pass0 (pa_cons (pv 0) (pa_cons (pv 4) pa_nil))) (pa_cons (pv 5) pa_nil))) (fun _ => rfl))) (pw_or1 (pt_cmpR (op_neD hu) (pe_callB (Zg.call_repr hgd hu) (by rfl) T.m_repr bt_repr (pa_cons (pv 4) pa_nil)) (pe_callB (Zg.call_repr hgd hu) (by rfl) T.m_repr bt_repr (pa_cons (pv 2) pa_nil)) (nomark _))))).pt
 (pss_one (ps_ret pe_bl))
 pss_nil)
 (pss_cons (ps_expr (pe_bm PySem.F.plainAttrs_list PySem.F.slot_list_append PySem.F.type_list_append mt_append (pv 4) (pa_cons (pv 3) pa_nil)))
 (pss_cons (ps_if (pt_not (pt_truth (pe_call G_law_says (hr.mono (by decide)) (by rfl) T.g_law_says T.F_law_says.kp T.b_law_says .nil pass0 (pa_cons (pe_call G_is_lot (hr.mono (by decide)) (by rfl) T.g_is_lot T.F_is_lot.kp T.b_is_lot .nil pass0 (pa_cons (pv 0) (pa_cons (pv 4) pa_nil))) (pa_cons (pe_call G_law_is_lot (hr.mono (by decide)) (by rfl) T.g_law_is_lot T.F_law_is_lot.kp T.b_law_is_lot .nil pass0 (pa_cons (pe_op op_addA (pv 2) (pe_lst (pa_cons (pv 3) pa_nil))) (pa_cons (pv 1) pa_nil))) pa_nil))) (fun _ => rfl)))
 (pss_one (ps_ret pe_bl))
 pss_nil)
 (pss_one (ps_ret (pe_call G_law_says (hr.mono (by decide)) (by rfl) T.g_law_says T.F_law_says.kp T.b_law_says .nil pass0 (pa_cons (pe_call G_is_lot (hr.mono (by decide)) (by rfl) T.g_is_lot T.F_is_lot.kp T.b_is_lot .nil pass0 (pa_cons (pv 0) (pa_cons (pe_callTy call_list_of (by rfl) T.m_list bt_list (pa_cons (pv 2) pa_nil)) pa_nil))) (pa_cons (pv 5) pa_nil)))))))))), ?_⟩
  exact ((sr_seq (sr_asgO (eo_list (er_var 2)))
 (sr_seq (sr_asg (er_call (ar_cons (er_var 2) (ar_cons (er_var 1) ar_nil))) (gr'_name 5))
 (sr_seq (sr_if (tr_peek (tr_or (tr_not (tr_tru (er_call (ar_cons (er_call (ar_cons (er_var 0) (ar_cons (er_var 4) ar_nil))) (ar_cons (er_var 5) ar_nil))))) (tr_test (er_2 rr_ne (er_n Zg.rc_repr (ar_cons (er_var 4) ar_nil)) (er_n Zg.rc_repr (ar_cons (er_var 2) ar_nil))))))
 (sr_ret er_bl)
 sr_next)
 (sr_seq (sr_app (i := 4) (er_var 3))
 (sr_seq (sr_if (tr_peek (tr_not (tr_tru (er_call (ar_cons (er_call (ar_cons (er_var 0) (ar_cons (er_var 4) ar_nil))) (ar_cons (er_call (ar_cons (er_2 rr_add (er_var 2) (er_lst (ar_cons (er_var 3) ar_nil))) (ar_cons (er_var 1) ar_nil))) ar_nil))))))
 (sr_ret er_bl)
 sr_next)
 (sr_ret (er_call (ar_cons (er_call (ar_cons (er_var 0) (ar_cons (er_n rc_list (ar_cons (er_var 2) ar_nil)) ar_nil))) (ar_cons (er_var 5) ar_nil))))))))) : SR K _ (t_law_asks_lot T.c))
theorem sc_law : FnScope N_law ["_law_script"] (defScope s_law) := ⟨rfl, rfl, rfl, by decide +kernel, rfl, by decide +kernel, by decide +kernel⟩
theorem ok_law (T : Txt K mg) : Zg.FnG P w K mg base 6 T.f_law T.fd_law ["_law_script"] (spG K 1 (g_law T.c)) := by
  have G_law_cell := ok_law_cell (P := P) (w := w) (base := base) T
  have G_law_draws := ok_law_draws (P := P) (w := w) (base := base) T
  have G_law_wide_pool := ok_law_wide_pool (P := P) (w := w) (base := base) T
  have G_law_pool := ok_law_pool (P := P) (w := w) (base := base) T
  have G_Pool_init := ok_Pool_init (P := P) (w := w) (base := base) T
  have G_law_drawn_dealing := ok_law_drawn_dealing (P := P) (w := w) (base := base) T
  have G_law_asks_dealing := ok_law_asks_dealing (P := P) (w := w) (base := base) T
  have G_law_wide_bits := ok_law_wide_bits (P := P) (w := w) (base := base) T
  have G_law_asks_lot := ok_law_asks_lot (P := P) (w := w) (base := base) T
  have G_law_spoilt := ok_law_spoilt (P := P) (w := w) (base := base) T
  have G_law_is_pool := ok_law_is_pool (P := P) (w := w) (base := base) T
  refine Zg.fnGG (m := 11) T.F_law sc_law rfl rfl (fun cdv A hgd outer s H E hr => ?_)
  have hu := hr.units
  refine ⟨_, (pss_cons (ps_set (i := 1) sc_law.nd rfl (by first | exact Or.inl rfl | exact Or.inr rfl) (pe_call G_law_draws (hr.mono (by decide)) (by rfl) T.g_law_draws T.F_law_draws.kp T.b_law_draws .nil pass0 (pa_cons (pe_call G_law_cell (hr.mono (by decide)) (by rfl) T.g_law_cell T.F_law_cell.kp T.b_law_cell .nil pass0 (pa_cons (pv 0) (pa_cons pe_int pa_nil))) (pa_cons (pe_lst (pa_cons pe_int (pa_cons pe_int (pa_cons pe_int (pa_cons pe_int (pa_cons pe_int (pa_cons pe_int (pa_cons pe_int (pa_cons pe_int pa_nil))))))))) pa_nil))))
 (pss_cons (ps_if (pt_cmpR (op_eqD hu) (pe_ix ix_seq (pv 1) pe_int (fun _ _ => rfl)) pe_int (nomark _))
 (pss_one (ps_asg (pe_call G_law_wide_pool (hr.mono (by decide)) (by rfl) T.g_law_wide_pool T.F_law_wide_pool.kp T.b_law_wide_pool .nil pass0 (pa_cons (pe_call G_law_cell (hr.mono (by decide)) (by rfl) T.g_law_cell T.F_law_cell.kp T.b_law_cell .nil pass0 (pa_cons (pv 0) (pa_cons pe_int pa_nil))) (pa_cons pe_int pa_nil))) (pg_tup rfl (pgs_cons (pg_name (i := 2) sc_law.nd rfl (by first | exact Or.inl rfl | exact Or.inr rfl)) (pgs_cons (pg_name (i := 3) sc_law.nd rfl (by first | exact Or.inl rfl | exact Or.inr rfl)) pgs_nil)))))
 (pss_one (ps_asg (pe_call G_law_pool (hr.mono (by decide)) (by rfl) T.g_law_pool T.F_law_pool.kp T.b_law_pool .nil pass0 (pa_cons (pe_call G_law_cell (hr.mono (by decide)) (by rfl) T.g_law_cell T.F_law_cell.kp T.b_law_cell .nil pass0 (pa_cons (pv 0) (pa_cons pe_int pa_nil))) (pa_cons pe_int pa_nil))) (pg_tup rfl (pgs_cons (pg_name (i := 2) sc_law.nd rfl (by first | exact Or.inl rfl | exact Or.inr rfl)) (pgs_cons (pg_name (i := 3) sc_law.nd rfl (by first | exact Or.inl rfl | exact Or.inr rfl)) pgs_nil))))))
 (pss_cons (ps_set (i := 4) sc_law.nd rfl (by first | exact Or.inl rfl | exact Or.inr rfl) (pe_make T.M_Pool G_Pool_init (hr.mono (by decide)) (by rfl) T.c_Pool T.b_Pool_init .nil pass0 (pa_cons (pe_callTy call_list_of (by rfl) T.m_list bt_list (pa_cons (pv 2) pa_nil)) (pa_cons (pe_lc (own := [("_law_row", 11)]) (g := (gName 11)) (tt := tYes) (te := (tCB (rListOf K) (tCons (tVar 11) tNil))) rfl sc_law.nd (pi_seq (pv 3)) (blkOk_by (N := N_law) (sc := defScope s_law) (by decide +kernel)) (fun _ _ _ _ _ => (pg_name (i := 11) sc_law.nd rfl (by first | exact Or.inl rfl | exact Or.inr rfl))) (fun _ _ _ _ _ => pts_nil) (fun _ _ _ _ _ => (pe_callTy call_list_of (by rfl) T.m_list bt_list (pa_cons (pv 11) pa_nil)))) pa_nil))))
 (pss_cons (ps_set (i := 5) sc_law.nd rfl (by first | exact Or.inl rfl | exact Or.inr rfl) (pe_call G_law_draws (hr.mono (by decide)) (by rfl) T.g_law_draws T.F_law_draws.kp T.b_law_draws .nil pass0 (pa_cons (pe_call G_law_cell (hr.mono (by decide)) (by rfl) T.g_law_cell T.F_law_cell.kp T.b_law_cell .nil pass0 (pa_cons (pv 0) (pa_cons pe_int pa_nil))) (pa_cons (pe_op op_addA (pe_op op_mulA (pe_lst (pa_cons pe_int pa_nil)) pe_int) (pe_op op_mulA (pe_lst (pa_cons pe_int pa_nil)) pe_int)) pa_nil))))
 (pss_cons (ps_set (i := 6) sc_law.nd rfl (by first | exact Or.inl rfl | exact Or.inr rfl) (pe_call G_law_drawn_dealing (hr.mono (by decide)) (by rfl) T.g_law_drawn_dealing T.F_law_drawn_dealing.kp T.b_law_drawn_dealing .nil pass0 (pa_cons (pv 2) (pa_cons (pv 3) (pa_cons (pv 1) (pa_cons (pv 5) pa_nil))))))
 (pss_cons (ps_if (pt_not (pt_truth (Zg.pe_callG hgd G_law_asks_dealing (hr.mono (by decide)) (by rfl) T.g_law_asks_dealing T.F_law_asks_dealing.kp T.b_law_asks_dealing (pa_cons (pv 4) (pa_cons (pv 2) (pa_cons (pv 3) (pa_cons (pv 6) (pa_cons (pv 1) pa_nil)))))) (fun _ => rfl)))
 (pss_one (ps_ret pe_bl))
 pss_nil)
 (pss_cons (ps_set (i := 7) sc_law.nd rfl (by first | exact Or.inl rfl | exact Or.inr rfl) (pe_callB call_lenA (by rfl) T.m_len bt_len (pa_cons (pv 3) pa_nil)))
 (pss_cons (ps_set (i := 8) sc_law.nd rfl (by first | exact Or.inl rfl | exact Or.inr rfl) (pe_call G_law_draws (hr.mono (by decide)) (by rfl) T.g_law_draws T.F_law_draws.kp T.b_law_draws .nil pass0 (pa_cons (pe_call G_law_cell (hr.mono (by decide)) (by rfl) T.g_law_cell T.F_law_cell.kp T.b_law_cell .nil pass0 (pa_cons (pv 0) (pa_cons pe_int pa_nil))) (pa_cons (pe_lst (pa_cons pe_int (pa_cons pe_int (pa_cons pe_int (pa_cons pe_int (pa_cons pe_int pa_nil)))))) pa_nil))))
 (pss_cons (ps_set (i := 9) sc_law.nd rfl (by first | exact Or.inl rfl | exact Or.inr rfl) (pe_call G_law_wide_bits (hr.mono (by decide)) (by rfl) T.g_law_wide_bits T.F_law_wide_bits.kp T.b_law_wide_bits .nil pass0 (pa_cons (pe_ix ix_seq (pv 8) pe_int (fun _ _ => rfl)) (pa_cons (pv 7) pa_nil))))
 (pss_cons (ps_if (pt_not (pt_truth (Zg.pe_callG hgd G_law_asks_lot (hr.mono (by decide)) (by rfl) T.g_law_asks_lot T.F_law_asks_lot.kp T.b_law_asks_lot (pa_cons (pv 4) (pa_cons (pv 7) (pa_cons (pv 9) (pa_cons (pe_op op_mod (pe_callTy call_int1 (by rfl) T.m_int bt_int (pa_cons (pe_ix ix_seq (pv 8) pe_int (fun _ _ => rfl)) pa_nil)) (pe_op op_addA (pv 7) pe_int)) pa_nil))))) (fun _ => rfl)))
 (pss_one (ps_ret pe_bl))
 pss_nil)
 (pss_cons (ps_set (i := 10) sc_law.nd rfl (by first | exact Or.inl rfl | exact Or.inr rfl) (pe_call G_law_spoilt (hr.mono (by decide)) (by rfl) T.g_law_spoilt T.F_law_spoilt.kp T.b_law_spoilt .nil pass0 (pa_cons (pv 9) (pa_cons (pv 7) (pa_cons (pe_ix ix_seq (pv 8) pe_int (fun _ _ => rfl)) (pa_cons (pe_ix ix_seq (pv 8) pe_int (fun _ _ => rfl)) (pa_cons (pe_ix ix_seq (pv 8) pe_int (fun _ _ => rfl)) pa_nil)))))))
 (pss_one (ps_ret (pe_and (Zg.pe_callG hgd G_law_asks_lot (hr.mono (by decide)) (by rfl) T.g_law_asks_lot T.F_law_asks_lot.kp T.b_law_asks_lot (pa_cons (pv 4) (pa_cons (pv 7) (pa_cons (pv 10) (pa_cons (pe_op op_mod (pe_callTy call_int1 (by rfl) T.m_int bt_int (pa_cons (pe_ix ix_seq (pv 8) pe_int (fun _ _ => rfl)) pa_nil)) (pe_op op_addA (pv 7) pe_int)) pa_nil))))) (pe_one (pe_call G_law_is_pool (hr.mono (by decide)) (by rfl) T.g_law_is_pool T.F_law_is_pool.kp T.b_law_is_pool .nil pass0 (pa_cons (pv 4) (pa_cons (pv 2) (pa_cons (pv 3) pa_nil))))))))))))))))))), ?_⟩
  exact ((sr_seq (sr_asg (er_call (ar_cons (er_call (ar_cons (er_var 0) (ar_cons er_int ar_nil))) (ar_cons (er_lst (ar_cons er_int (ar_cons er_int (ar_cons er_int (ar_cons er_int (ar_cons er_int (ar_cons er_int (ar_cons er_int (ar_cons er_int ar_nil))))))))) ar_nil))) (gr'_name 1))
 (sr_seq (sr_if (tr_test (er_2 rr_eq (er_2 rr_ix (er_var 1) er_int) er_int))
 (sr_asg (er_call (ar_cons (er_call (ar_cons (er_var 0) (ar_cons er_int ar_nil))) (ar_cons er_int ar_nil))) (gr'_tup (n := 2) (grs'_cons (gr'_name 2) (grs'_cons (gr'_name 3) grs'_nil))))
 (sr_asg (er_call (ar_cons (er_call (ar_cons (er_var 0) (ar_cons er_int ar_nil))) (ar_cons er_int ar_nil))) (gr'_tup (n := 2) (grs'_cons (gr'_name 2) (grs'_cons (gr'_name 3) grs'_nil)))))
 (sr_seq (sr_asg (er_of_eo (eo_make (ar_cons (er_n rc_list (ar_cons (er_var 2) ar_nil)) (ar_cons (er_of_eo (eo_lc (vs := [11]) (ir_seq (er_var 3)) (grc_name (j := 11) (by decide)) tr_yes (er_n rc_list (ar_cons (er_var 11) ar_nil)))) ar_nil)))) (gr'_name 4))
 (sr_seq (sr_asg (er_call (ar_cons (er_call (ar_cons (er_var 0) (ar_cons er_int ar_nil))) (ar_cons (er_2 rr_add (er_2 rr_mul (er_lst (ar_cons er_int ar_nil)) er_int) (er_2 rr_mul (er_lst (ar_cons er_int ar_nil)) er_int)) ar_nil))) (gr'_name 5))
 (sr_seq (sr_asg (er_call (ar_cons (er_var 2) (ar_cons (er_var 3) (ar_cons (er_var 1) (ar_cons (er_var 5) ar_nil))))) (gr'_name 6))
 (sr_seq (sr_if (tr_not (tr_tru (er_call (ar_cons (er_var 4) (ar_cons (er_var 2) (ar_cons (er_var 3) (ar_cons (er_var 6) (ar_cons (er_var 1) ar_nil))))))))
 (sr_ret er_bl)
 sr_next)
 (sr_seq (sr_asg (er_n rc_len (ar_cons (er_var 3) ar_nil)) (gr'_name 7))
 (sr_seq (sr_asg (er_call (ar_cons (er_call (ar_cons (er_var 0) (ar_cons er_int ar_nil))) (ar_cons (er_lst (ar_cons er_int (ar_cons er_int (ar_cons er_int (ar_cons er_int (ar_cons er_int ar_nil)))))) ar_nil))) (gr'_name 8))
 (sr_seq (sr_asg (er_call (ar_cons (er_2 rr_ix (er_var 8) er_int) (ar_cons (er_var 7) ar_nil))) (gr'_name 9))
 (sr_seq (sr_if (tr_not (tr_tru (er_call (ar_cons (er_var 4) (ar_cons (er_var 7) (ar_cons (er_var 9) (ar_cons (er_2 rr_mod (er_n rc_int (ar_cons (er_2 rr_ix (er_var 8) er_int) ar_nil)) (er_2 rr_add (er_var 7) er_int)) ar_nil)))))))
 (sr_ret er_bl)
 sr_next)
 (sr_seq (sr_asg (er_call (ar_cons (er_var 9) (ar_cons (er_var 7) (ar_cons (er_2 rr_ix (er_var 8) er_int) (ar_cons (er_2 rr_ix (er_var 8) er_int) (ar_cons (er_2 rr_ix (er_var 8) er_int) ar_nil)))))) (gr'_name 10))
 (sr_ret (er_and (er_call (ar_cons (er_var 4) (ar_cons (er_var 7) (ar_cons (er_var 10) (ar_cons (er_2 rr_mod (er_n rc_int (ar_cons (er_2 rr_ix (er_var 8) er_int) ar_nil)) (er_2 rr_add (er_var 7) er_int)) ar_nil))))) (er_call (ar_cons (er_var 4) (ar_cons (er_var 2) (ar_cons (er_var 3) ar_nil))))))))))))))))) : SR K _ (t_law T.c))
end
end Y
end

section
set_option Elab.async false
set_option linter.all false
set_option maxRecDepth 100000
set_option autoImplicit false
set_option maxHeartbeats 2000000
/-! Reckoning with the data. -/
namespace Zk
open PySem L2
theorem dName_at {i : Nat} {d : D} {g : Gm} (h : i < g.length) (h0 : i ≠ 0) : dName i d g = some (g.set i (some (.v d))) := by
  unfold dName okSlot
  rw [if_pos]
  simp [h, h0]
theorem sAsgO_at {i : Nat} {a : DF} {g : Gm} {d : D} (h : a g = some d) (hi : i < g.length) (h0 : i ≠ 0) : sAsgO a i g = some (.nx (g.set i (some (.o d)))) := by
  unfold sAsgO okSlot
  rw [h]
  simp [hi, h0]
theorem seq_nx {s u : SF} {g g' : Gm} (h : s g = some (.nx g')) : sSeq s u g = u g' := by
  unfold sSeq
  rw [h] <;> rfl
theorem seq_rt {s u : SF} {g : Gm} {w : Wd} (h : s g = some (.rt w)) : sSeq s u g = some (.rt w) := by
  unfold sSeq
  rw [h] <;> rfl
theorem asg_at {i : Nat} {a : DF} {g : Gm} {d : D} (h : a g = some d) (hi : i < g.length) (h0 : i ≠ 0) : sAsg a (dName i) g = some (.nx (g.set i (some (.v d)))) := by
  unfold sAsg
  rw [h, Option.bind_some, dName_at hi h0] <;> rfl
/-- a loop whose turns lead from state to state -/
theorem loop_fold {α : Type} {f : DGF} {s : SF} (st : α → Gm) (F : α → D → α) (Ok : α → Prop) : ∀ (ds : List D) (a : α), Ok a → (∀ a d, d ∈ ds → Ok a → Ok (F a d) ∧ ∃ g1, f d (st a) = some g1 ∧ s g1 = some (.nx (st (F a d)))) →
    loopD f s ds (st a) = some (.nx (st (ds.foldl F a))) ∧ Ok (ds.foldl F a)
  | [], a, h, _ => ⟨rfl, h⟩
  | d :: ds, a, h, hs => by
    obtain ⟨h1, g1, h2, h3⟩ := hs a d List.mem_cons_self h
    unfold loopD
    rw [h2, Option.bind_some, h3]
    exact loop_fold st F Ok ds (F a d) h1 fun a d hd => hs a d (List.mem_cons_of_mem _ hd)
/-- a loop by a word over the turn's number -/
theorem loop_inv {f : DGF} {s : SF} {ds : List D} (I : Nat → Gm → Prop) {g : Gm} (h0 : I 0 g) (hs : ∀ (i : Nat) (d : D) (g : Gm), ds[i]? = some d → I i g → ∃ g1 g2, f d g = some g1 ∧ (s g1 = some (.nx g2) ∨ s g1 = some (.ct g2)) ∧ I (i + 1) g2) :
    ∃ g', loopD f s ds g = some (.nx g') ∧ I ds.length g' := by
  induction ds generalizing I g with
  | nil => exact ⟨g, rfl, h0⟩
  | cons d ds ih =>
    obtain ⟨g1, g2, h1, h2, h3⟩ := hs 0 d g rfl h0
    obtain ⟨g', e, h4⟩ := ih (fun i g => I (i + 1) g) h3 fun i e g he hI => hs (i + 1) e g (by simpa using he) hI
    refine ⟨g', ?_, h4⟩
    unfold loopD
    rw [h1, Option.bind_some]
    rcases h2 with h2 | h2
    · rw [h2]; exact e
    · rw [h2]; exact e
end Zk
end

section
set_option Elab.async false
set_option linter.all false
set_option maxRecDepth 100000
set_option autoImplicit false
set_option maxHeartbeats 2000000
/-! The combinators, step by step. -/
namespace Zk
open PySem L2
section
variable {f f' : D → D → Option D} {h : D → Option D} {hN : List D → Option D} {a b c : DF} {r : DAF} {g : Gm} {x y d e : D} {xs ds : List D} {t u : DTF} {s q : SF} {i n : Nat} {o : Option Wd} {k : Bool} {tg : DGF}
def ap1 {α : Type} (h : D → Option α) : Option D → Option α := fun x => x.bind h
theorem ap1_some {α : Type} {h : D → Option α} : ap1 h (some x) = h x := rfl
def ap2 (f : D → D → Option D) : Option D → Option D → Option D := fun x y => x.bind fun x => y.bind fun y => f x y
theorem ap2_some : ap2 f (some x) (some y) = f x y := rfl
def apN (h : List D → Option D) : Option (List D) → Option D := fun x => x.bind h
theorem apN_some : apN hN (some xs) = hN xs := rfl
def apC : Option D → Option (List D) → Option (List D) := fun x r => x.bind fun x => r.bind fun xs => some (x :: xs)
theorem apC_some : apC (some x) (some xs) = some (x :: xs) := rfl
theorem d1_a : d1 h a g = ap1 h (a g) := rfl
theorem d2_a : d2 f a b g = ap2 f (a g) (b g) := rfl
theorem dN_a : dN hN r g = apN hN (r g) := rfl
theorem aNil_a : aNil g = some [] := rfl
theorem aCons_a : aCons a r g = apC (a g) (r g) := rfl
theorem dC_a : dC d g = some d := rfl
theorem dVar_z : dVar 0 (some (.v d) :: g) = some d := rfl
theorem dVar_s : dVar (i + 1) (o :: g) = dVar i g := rfl
theorem tDt_a {h : D → Option Bool} : tDt h a g = ap1 h (a g) := rfl
def apAnd : Option Bool → DTF → Gm → Option Bool := fun x b g => x.bind fun x => if x = true then b g else some false
theorem apAnd_t : apAnd (some true) u g = u g := rfl
theorem apAnd_f : apAnd (some false) u g = some false := rfl
theorem apAnd_v {k2 : Bool} (h : k = true → u g = some k2) : apAnd (some k) u g = some (k && k2) := by
  cases k with
  | true => exact h rfl
  | false => rfl
def apOr : Option Bool → DTF → Gm → Option Bool := fun x b g => x.bind fun x => if x = true then some true else b g
theorem apOr_t : apOr (some true) u g = some true := rfl
theorem apOr_f : apOr (some false) u g = u g := rfl
theorem apOr_v {k2 : Bool} (h : k = false → u g = some k2) : apOr (some k) u g = some (k || k2) := by
  cases k with
  | false => exact h rfl
  | true => rfl
theorem dAndT_a : dAndT t u g = apAnd (t g) u g := rfl
theorem dOrT_a : dOrT t u g = apOr (t g) u g := rfl
def apNot : Option Bool → Option Bool := fun x => x.map (!·)
theorem apNot_some : apNot (some k) = some (!k) := rfl
theorem dNotT_a : dNotT t g = apNot (t g) := rfl
def apAndV : Option D → DF → Gm → Option D := fun x b g => x.bind fun x => match x with
  | .bl true => b g
  | .bl false => some (.bl false)
  | _ => none
theorem apAndV_t : apAndV (some (.bl true)) b g = b g := rfl
theorem apAndV_f : apAndV (some (.bl false)) b g = some (.bl false) := rfl
theorem apAndV_v {k2 : Bool} (h : k = true → b g = some (.bl k2)) : apAndV (some (.bl k)) b g = some (.bl (k && k2)) := by
  cases k with
  | true => exact h rfl
  | false => rfl
theorem dAndV_a : dAndV a b g = apAndV (a g) b g := rfl
def apOrV : Option D → DF → Gm → Option D := fun x b g => x.bind fun x => match x with
  | .bl true => some (.bl true)
  | .bl false => b g
  | _ => none
theorem apOrV_t : apOrV (some (.bl true)) b g = some (.bl true) := rfl
theorem apOrV_f : apOrV (some (.bl false)) b g = b g := rfl
theorem apOrV_v {k2 : Bool} (h : k = false → b g = some (.bl k2)) : apOrV (some (.bl k)) b g = some (.bl (k || k2)) := by
  cases k with
  | false => exact h rfl
  | true => rfl
theorem dOrV_a : dOrV a b g = apOrV (a g) b g := rfl
def apIf : Option Bool → DF → DF → Gm → Option D := fun x a b g => x.bind fun x => if x = true then a g else b g
theorem apIf_t : apIf (some true) a b g = a g := rfl
theorem apIf_f : apIf (some false) a b g = b g := rfl
theorem dIf_a : dIf t a b g = apIf (t g) a b g := rfl
def apCh (f' : D → D → Option D) (y : D) (c : DF) (g : Gm) : Option D → Option D := fun z => z.bind fun z => match z with
  | .bl true => (c g).bind fun w => f' y w
  | .bl false => some (.bl false)
  | _ => none
theorem apCh_t : apCh f' y c g (some (.bl true)) = ap2 f' (some y) (c g) := rfl
theorem apCh_f : apCh f' y c g (some (.bl false)) = some (.bl false) := rfl
theorem apCh_v {k2 : Bool} (h : ap2 f' (some y) (c g) = some (.bl k2)) : apCh f' y c g (some (.bl k)) = some (.bl (k && k2)) := by
  cases k with
  | true => exact h
  | false => rfl
def apChain (f f' : D → D → Option D) : Option D → Option D → DF → Gm → Option D := fun x y c g => x.bind fun x => y.bind fun y => apCh f' y c g (f x y)
theorem apChain_some : apChain f f' (some x) (some y) c g = apCh f' y c g (f x y) := rfl
theorem dChain_a : dChain f f' a b c g = apChain f f' (a g) (b g) c g := rfl
/-! ### statements -/
def apSeq : Option Out → SF → Option Out := fun o u => o.bind fun o => sThen o u
theorem apSeq_nx {g : Gm} : apSeq (some (.nx g)) q = q g := (rfl)
theorem apSeq_rt {w : Wd} : apSeq (some (.rt w)) q = some (.rt w) := rfl
theorem apSeq_ct {g : Gm} : apSeq (some (.ct g)) q = some (.ct g) := rfl
theorem apSeq_bk {g : Gm} : apSeq (some (.bk g)) q = some (.bk g) := rfl
theorem sSeq_a : sSeq s q g = apSeq (s g) q := rfl
def apIfS : Option Bool → SF → SF → Gm → Option Out := fun x s u g => x.bind fun x => if x = true then s g else u g
theorem apIfS_t : apIfS (some true) s q g = s g := rfl
theorem apIfS_f : apIfS (some false) s q g = q g := rfl
theorem sIf_a : sIf t s q g = apIfS (t g) s q g := rfl
theorem sNext_a : sNext g = some (.nx g) := rfl
theorem sCont_a : sCont g = some (.ct g) := rfl
theorem sBreak_a : sBreak g = some (.bk g) := rfl
def apRet : Option D → Option Out := fun x => x.map fun d => .rt (.v d)
theorem apRet_some : apRet (some d) = some (.rt (.v d)) := rfl
theorem sRet_a : sRet a g = apRet (a g) := rfl
def apRetO : Option D → Option Out := fun x => x.map fun d => .rt (.o d)
theorem apRetO_some : apRetO (some d) = some (.rt (.o d)) := rfl
theorem sRetO_a : sRetO a g = apRetO (a g) := rfl
theorem sRetN_a : sRetN g = some (.rt (.v .non)) := rfl
def getO : Gm → Nat → Option D := fun g i => match g[i]? with
  | some (some (.o d)) => some d
  | _ => none
theorem getO_z : getO (some (.o d) :: g) 0 = some d := rfl
theorem getO_s : getO (o :: g) (i + 1) = getO g i := rfl
def apRetV : Option D → Option Out := fun x => x.map fun d => .rt (.o d)
theorem apRetV_some : apRetV (some d) = some (.rt (.o d)) := rfl
theorem sRetV_a : sRetV i g = apRetV (getO g i) := by
  unfold sRetV apRetV getO
  cases e : g[i]? with
  | none => rfl
  | some o =>
    cases o with
    | none => rfl
    | some w => cases w <;> rfl
def ltB : Gm → Nat → Bool := fun g i => decide (i < g.length)
theorem ltB_z : ltB (o :: g) 0 = true := rfl
theorem ltB_s : ltB (o :: g) (i + 1) = ltB g i := by
  unfold ltB
  rw [List.length_cons]
  simp
theorem okSlot_s : okSlot (o :: g) (i + 1) = ltB g i := by
  unfold okSlot ltB
  rw [List.length_cons]
  simp
def apAsg : Option D → DGF → Gm → Option Out := fun x f g => x.bind fun d => (f d g).map .nx
theorem apAsg_some : apAsg (some d) tg g = (tg d g).map .nx := rfl
theorem sAsg_a : sAsg a tg g = apAsg (a g) tg g := rfl
theorem dName_ok (h : okSlot g i = true) : dName i d g = some (g.set i (some (.v d))) := if_pos h
theorem dgTup_a {m : DGFs} (h : ds.length = n) : dgTup n m (.tup ds) g = m ds g := if_pos h
def apG : Option Gm → (Gm → Option Gm) → Option Gm := fun x k => x.bind k
theorem apG_some {k : Gm → Option Gm} : apG (some g) k = k g := rfl
theorem dgCons_a {m : DGFs} : dgCons tg m (d :: ds) g = apG (tg d g) (m ds) := rfl
theorem dgNil_a : dgNil [] g = some g := rfl
def apAsgO : Option D → Nat → Gm → Option Out := fun x i g => x.bind fun d => if okSlot g i = true then some (.nx (g.set i (some (.o d)))) else none
theorem apAsgO_some (h : okSlot g i = true) : apAsgO (some d) i g = some (.nx (g.set i (some (.o d)))) := if_pos h
theorem sAsgO_a : sAsgO a i g = apAsgO (a g) i g := rfl
def apApp : Option D → Option D → Nat → Gm → Option Out := fun x y i g => x.bind fun d => match y with
  | some (.lst ds) => if ds.length < 100000 then some (.nx (g.set i (some (.o (.lst (ds ++ [d])))))) else none
  | _ => none
theorem apApp_some (h : ds.length < 100000) : apApp (some d) (some (.lst ds)) i g = some (.nx (g.set i (some (.o (.lst (ds ++ [d])))))) := if_pos h
theorem sApp_a : sApp i a g = apApp (a g) (getO g i) i g := by
  unfold sApp apApp getO
  congr 1
  funext d
  cases e : g[i]? with
  | none => rfl
  | some o =>
    cases o with
    | none => rfl
    | some w =>
      cases w with
      | v d => rfl
      | o d => cases d <;> rfl
def apSetI : Option D → Option D → Option D → Nat → Gm → Option Out := fun x z y i g => x.bind fun d => z.bind fun z => match z, y with
  | .int k, some (.lst ds) => (ixN ds.length k).map fun j => .nx (g.set i (some (.o (.lst (ds.set j d)))))
  | _, _ => none
theorem apSetI_some {j : Nat} (h : j < ds.length) : apSetI (some d) (some (.int (j : Int))) (some (.lst ds)) i g = some (.nx (g.set i (some (.o (.lst (ds.set j d)))))) := by
  unfold apSetI
  simp only [Option.bind_some]
  rw [Evl.ixN_nat h] <;> rfl
theorem sSetI_a : sSetI i b a g = apSetI (a g) (b g) (getO g i) i g := by
  unfold sSetI apSetI getO
  congr 1
  funext d
  congr 1
  funext z
  cases e : g[i]? with
  | none => cases z <;> rfl
  | some o =>
    cases o with
    | none => cases z <;> rfl
    | some w =>
      cases w with
      | v d => cases z <;> rfl
      | o d => cases d <;> cases z <;> rfl
def apFor : Option (List D) → DGF → SF → Gm → Option Out := fun x f s g => x.bind fun ds => loopD f s ds g
theorem apFor_some : apFor (some ds) tg s g = loopD tg s ds g := rfl
theorem sFor_a {it : DIF} : sFor it tg s g = apFor (it g) tg s g := rfl
theorem dItems_a : dItems a g = ap1 itemsD (a g) := rfl
def apR1 : Option (List D) → Option (List D) := fun x => x.bind fun xs => match xs with
  | [.int n] => if n ≤ 1000000 ∧ -1000000 ≤ n then some (rngL 0 n.toNat) else none
  | _ => none
theorem apR1_some {n : Nat} (h : n ≤ 1000000) : apR1 (some [.int (n : Int)]) = some (rngL 0 n) := if_pos (by omega)
theorem dRng1_a : dRng1 r g = apR1 (r g) := rfl
def apR2 : Option (List D) → Option (List D) := fun x => x.bind fun xs => match xs with
  | [.int i, .int j] => if (i ≤ 1000000 ∧ -1000000 ≤ i) ∧ j ≤ 1000000 ∧ -1000000 ≤ j then some (rngL i (j - i).toNat) else none
  | _ => none
theorem apR2_some {i j : Int} (h : (i ≤ 1000000 ∧ -1000000 ≤ i) ∧ j ≤ 1000000 ∧ -1000000 ≤ j) : apR2 (some [.int i, .int j]) = some (rngL i (j - i).toNat) := if_pos h
theorem dRng2_a : dRng2 r g = apR2 (r g) := rfl
def apEn : Option (List D) → Option (List D) := fun x => x.bind fun xs => match xs with
  | [.lst ds] => some (enumL 0 ds)
  | [.tup ds] => some (enumL 0 ds)
  | _ => none
theorem apEn_some : apEn (some [.lst ds]) = some (enumL 0 ds) := rfl
theorem apEn_tup : apEn (some [.tup ds]) = some (enumL 0 ds) := rfl
theorem dEnum_a : dEnum r g = apEn (r g) := rfl
/-! ### freezing -/
theorem sFrz_a {l : List Nat} : sFrz l s g = s (frzs g l) := rfl
def frzI : Gm → Nat → Gm := fun g i => match g[i]? with
  | some (some (.o d)) => g.set i (some (.v d))
  | _ => g
theorem frzs_nil : frzs g [] = g := rfl
theorem frzs_cons {l : List Nat} : frzs g (i :: l) = frzs (frz1 g i) l := rfl
theorem frzI_o : frzI (some (.o d) :: g) 0 = some (.v d) :: g := rfl
theorem frzI_v : frzI (some (.v d) :: g) 0 = some (.v d) :: g := rfl
theorem frzI_n : frzI (none :: g) 0 = none :: g := rfl
theorem frzI_s : frzI (o :: g) (i + 1) = o :: frzI g i := by
  unfold frzI
  rw [List.getElem?_cons_succ]
  cases e : g[i]? with
  | none => rfl
  | some p =>
    cases p with
    | none => rfl
    | some w => cases w <;> rfl
theorem frz1_s : frz1 (o :: g) (i + 1) = o :: frzI g i := by
  rw [← frzI_s]
  unfold frz1 frzI
  rw [if_neg (Nat.succ_ne_zero i)] <;> rfl
theorem frzAll_nil : frzAll [] = [] := rfl
theorem frzAll_o : frzAll (some (.o d) :: g) = some (.v d) :: frzAll g := rfl
theorem frzAll_v : frzAll (some (.v d) :: g) = some (.v d) :: frzAll g := rfl
theorem frzAll_n : frzAll (none :: g) = none :: frzAll g := rfl
theorem peekT_a : peekT t g = t (frzAll g) := rfl
def apPk : Option D → Option D := fun x => match x with
  | some d => if d.flat = true then some d else none
  | none => none
theorem apPk_int {j : Int} : apPk (some (.int j)) = some (.int j) := rfl
theorem apPk_bl {j : Bool} : apPk (some (.bl j)) = some (.bl j) := rfl
theorem apPk_str {j : Str} : apPk (some (.str j)) = some (.str j) := rfl
theorem apPk_non : apPk (some .non) = some .non := rfl
theorem peekF_a : peekF a g = apPk (a (frzAll g)) := rfl
/-! ### calls -/
def apCall (n : Nat) (gf : PF) : Option (List D) → Option D := fun x => x.bind fun ds => if ds.length = n then (gf ds).map Wd.d else none
theorem dCall_a {gf : PF} : dCall n gf r g = apCall n gf (r g) := rfl
theorem apCall_some {gf : PF} (h : ds.length = n) : apCall n gf (some ds) = (gf ds).map Wd.d := if_pos h
def toO : Option Wd → Option D := fun x => match x with
  | some (.o d) => some d
  | _ => none
theorem toO_o : toO (some (.o d)) = some d := rfl
def apCallO (n : Nat) (gf : PF) : Option (List D) → Option D := fun x => x.bind fun ds => if ds.length = n then toO (gf ds) else none
theorem dCallO_a {gf : PF} : dCallO n gf r g = apCallO n gf (r g) := by
  unfold dCallO apCallO toO
  rfl
theorem apCallO_some {gf : PF} (h : ds.length = n) : apCallO n gf (some ds) = toO (gf ds) := if_pos h
def apMake (C : Addr) (n : Nat) (gf : List D → Option (List (Str × D))) : Option (List D) → Option D := fun x => x.bind fun ds => if ds.length = n then (gf ds).map (.ins C) else none
theorem dMake_a {C : Addr} {gf : List D → Option (List (Str × D))} : dMake C n gf r g = apMake C n gf (r g) := rfl
theorem apMake_some {C : Addr} {gf : List D → Option (List (Str × D))} (h : ds.length = n) : apMake C n gf (some ds) = (gf ds).map (.ins C) := if_pos h
theorem Wd_v : Wd.d (.v d) = d := rfl
theorem Wd_o : Wd.d (.o d) = d := rfl
/-! ### comprehensions, slices -/
theorem dLc_eq {it : DIF} {tt : DTF} {te : DF} {vs : List Nat} {es : List D} (hf : free g vs = true) (hi : it g = some ds) (hz : ds.length ≤ 100000) (h : lcL tg tt te (wipeG g vs) ds = some es) : dLc it tg tt te vs g = some (.lst es) := by
  unfold dLc
  rw [if_pos hf, hi, Option.bind_some, if_pos hz, h] <;> rfl
theorem lcL_map {tt : DTF} {te : DF} (F : D → D) : ∀ {ds : List D}, (∀ d, d ∈ ds → ∃ g1, tg d g = some g1 ∧ tt g1 = some true ∧ te g1 = some (F d)) → lcL tg tt te g ds = some (ds.map F)
  | [], _ => rfl
  | d :: ds, h => by
    obtain ⟨g1, h1, h2, h3⟩ := h d List.mem_cons_self
    unfold lcL
    rw [h1, Option.bind_some, h2, Option.bind_some, if_pos rfl, h3, Option.bind_some, lcL_map F fun d hd => h d (List.mem_cons_of_mem _ hd)] <;> rfl
theorem lcL_filter {tt : DTF} {te : DF} (T : D → Bool) (F : D → D) : ∀ {ds : List D}, (∀ d, d ∈ ds → ∃ g1, tg d g = some g1 ∧ tt g1 = some (T d) ∧ (T d = true → te g1 = some (F d))) → lcL tg tt te g ds = some ((ds.filter T).map F)
  | [], _ => rfl
  | d :: ds, h => by
    obtain ⟨g1, h1, h2, h3⟩ := h d List.mem_cons_self
    have ih := lcL_filter T F (ds := ds) fun d hd => h d (List.mem_cons_of_mem _ hd)
    unfold lcL
    rw [h1, Option.bind_some, h2, Option.bind_some]
    cases e : T d with
    | true =>
      rw [if_pos rfl, h3 e, Option.bind_some, ih, List.filter_cons, if_pos e] <;> rfl
    | false =>
      rw [if_neg Bool.false_ne_true, ih, List.filter_cons, if_neg (by rw [e]; exact Bool.false_ne_true)]
def apSl : Option D → Option (Option Int) → Option (Option Int) → Option D := fun x l h => x.bind fun x => l.bind fun l => h.bind fun h => slD x l h
theorem dSl_a {lo hi : DOF} : dSl a lo hi g = apSl (a g) (lo g) (hi g) := rfl
theorem apSl_some {lo hi : Option Int} : apSl (some (.lst ds)) (some lo) (some hi) = some (.lst (cutL ds lo hi)) := rfl
theorem oNone_a : oNone g = some none := rfl
def apO : Option D → Option (Option Int) := fun x => x.bind fun x => match x with
  | .int i => some (some i)
  | _ => none
theorem oSome_a : oSome a g = apO (a g) := rfl
theorem apO_some {j : Int} : apO (some (.int j)) = some (some j) := rfl
/-! ### operators -/
variable {j k' : Int} {p p' : Str}
theorem add_ii : addD (.int j) (.int k') = some (.int (j + k')) := rfl
theorem add_ll {es : List D} (h : ds.length + es.length ≤ 100000) : addD (.lst ds) (.lst es) = some (.lst (ds ++ es)) := if_pos h
theorem add_ss (h : p.length + p'.length ≤ 100000) : addD (.str p) (.str p') = some (.str (p ++ p')) := if_pos h
theorem sub_ii : subD (.int j) (.int k') = some (.int (j - k')) := rfl
theorem mul_ii (h : j.natAbs.log2 + k'.natAbs.log2 < 100000000) : mulD (.int j) (.int k') = some (.int (j * k')) := if_pos h
theorem log2_lt_of {m n : Nat} (h : m < 2 ^ n) (hn : 0 < n) : m.log2 < n := by
  by_cases e : m = 0
  · rw [e]; simpa using hn
  · exact (Nat.log2_lt e).mpr h
theorem mul_small (h : j.natAbs < 2 ^ 1000) (h' : k'.natAbs < 2 ^ 1000) : mulD (.int j) (.int k') = some (.int (j * k')) := mul_ii (by
  have h1 := log2_lt_of h (by decide)
  have h2 := log2_lt_of h' (by decide)
  omega)
theorem mul_li {m : Nat} (h : m ≤ 100000) (h' : ds.length * m ≤ 100000) : mulD (.lst ds) (.int (m : Int)) = some (.lst (List.replicate m ds).flatten) := if_pos ⟨by omega, by omega, by simpa using h'⟩
theorem fdiv_ii (h : 0 < k') (h' : k'.natAbs < 2 ^ 8000) : fdivD (.int j) (.int k') = some (.int (j / k')) := if_pos ⟨h, by
  have := log2_lt_of h' (by decide)
  omega⟩
theorem mod_ii (h : 0 < k') : modD (.int j) (.int k') = some (.int (j % k')) := if_pos h
theorem lt_ii : ltD (.int j) (.int k') = some (.bl (decide (j < k'))) := rfl
theorem le_ii : leD (.int j) (.int k') = some (.bl (decide (j ≤ k'))) := rfl
theorem gt_ii : gtD (.int j) (.int k') = some (.bl (decide (k' < j))) := rfl
theorem ge_ii : geD (.int j) (.int k') = some (.bl (decide (k' ≤ j))) := rfl
theorem eq_ii : eqD (.int j) (.int k') = some (.bl (j == k')) := rfl
theorem ne_ii : neD (.int j) (.int k') = some (.bl (!(j == k'))) := rfl
theorem neg_i : negD (.int j) = some (.int (-j)) := rfl
theorem not_b : notD (.bl k) = some (.bl (!k)) := rfl
theorem bl_b : blD (.bl k) = some k := rfl
theorem tru_b : truD (.bl k) = some k := rfl
theorem tru_i : truD (.int j) = some (j != 0) := rfl
theorem tru_l : truD (.lst ds) = some (!ds.isEmpty) := rfl
theorem tru_t : truD (.tup ds) = some (!ds.isEmpty) := rfl
theorem tru_n : truD .non = some false := rfl
theorem len_l : lenD [.lst ds] = some (.int ds.length) := rfl
theorem len_t : lenD [.tup ds] = some (.int ds.length) := rfl
theorem len_scr {ns : List Int} : lenD [.scr ns] = some (.int ns.length) := rfl
theorem abs_i : absD [.int j] = some (.int (if j < 0 then -j else j)) := rfl
theorem int_i : intD [.int j] = some (.int j) := rfl
theorem list_l : listD [.lst ds] = some (.lst ds) := rfl
theorem list_t : listD [.tup ds] = some (.lst ds) := rfl
theorem tuple_l : tupleD [.lst ds] = some (.tup ds) := rfl
theorem tuple_t : tupleD [.tup ds] = some (.tup ds) := rfl
theorem min_ii : minD [.int j, .int k'] = some (.int (if k' < j then k' else j)) := rfl
theorem max_ii : maxD [.int j, .int k'] = some (.int (if k' > j then k' else j)) := rfl
theorem mkLst_some (h : ds.length ≤ 100000) : mkLst ds = some (.lst ds) := if_pos h
theorem mkTup_some (h : ds.length ≤ 100000) : mkTup ds = some (.tup ds) := if_pos h
theorem rev_l : revD (.lst ds) = some (.lst ds.reverse) := rfl
theorem items_l : itemsD (.lst ds) = some ds := rfl
theorem items_t : itemsD (.tup ds) = some ds := rfl
theorem ix_l {m : Nat} (h : ds[m]? = some d) : ixD (.lst ds) (.int (m : Int)) = some d := atI_nat h
theorem ix_t {m : Nat} (h : ds[m]? = some d) : ixD (.tup ds) (.int (m : Int)) = some d := atI_nat h
theorem ix_scr {ns : List Int} {m : Nat} (h : ns[m]? = some j) : ixD (.scr ns) (.int (m : Int)) = some (.int j) := by
  show (atI ns (m : Int)).map D.int = _
  rw [atI_nat h] <;> rfl
theorem iL_get {ns : List Int} {m : Nat} : (iL ns)[m]? = (ns[m]?).map D.int := by unfold iL; rw [List.getElem?_map]
theorem iL_len {ns : List Int} : (iL ns).length = ns.length := by unfold iL; rw [List.length_map]
theorem iL_app {ns ms : List Int} : iL ns ++ iL ms = iL (ns ++ ms) := by unfold iL; rw [List.map_append]
theorem iL_one : [D.int j] = iL [j] := rfl
theorem iL_nil : iL [] = [] := rfl
theorem rng_get {lo : Int} {n i : Nat} (h : (rngL lo n)[i]? = some d) : i < n ∧ d = .int (lo + i) := by
  unfold rngL at h
  rw [List.getElem?_map] at h
  have hi : i < n := by
    cases z : (List.range n)[i]? with
    | none => rw [z] at h; cases h
    | some j => have := (List.getElem?_eq_some_iff.mp z).1; rw [List.length_range] at this; exact this
  rw [List.getElem?_range hi] at h
  cases h
  exact ⟨hi, rfl⟩
theorem rng_len {lo : Int} {n : Nat} : (rngL lo n).length = n := by unfold rngL; rw [List.length_map, List.length_range]
theorem rng_mem {lo : Int} {n : Nat} (h : d ∈ rngL lo n) : ∃ i, i < n ∧ d = .int (lo + (i : Nat)) := by
  obtain ⟨i, hi⟩ := List.mem_iff_getElem?.mp h
  exact ⟨i, rng_get hi⟩
def outW : Option Out → Option Wd := fun x => match x with
  | some (.rt w) => some w
  | some (.nx _) => some (.v .non)
  | _ => none
theorem run_a {m : Nat} {t : SF} {ds : List D} : runG m t ds = outW (t (ds.map (fun d => some (.v d)) ++ List.replicate m none)) := rfl
theorem outW_rt {w : Wd} : outW (some (.rt w)) = some w := rfl
theorem outW_nx : outW (some (.nx g)) = some (.v .non) := rfl
end
end Zk
end

section
set_option Elab.async false
set_option linter.all false
set_option maxRecDepth 100000
set_option autoImplicit false
set_option maxHeartbeats 2000000
/-! Loops by a word. -/
namespace Zk
open PySem L2
def StepTo (o : Option Out) (J : Gm → Prop) : Prop := ∃ g, (o = some (.nx g) ∨ o = some (.ct g)) ∧ J g
theorem step_nx {g : Gm} {J : Gm → Prop} (h : J g) : StepTo (some (.nx g)) J := ⟨g, .inl rfl, h⟩
theorem step_ct {g : Gm} {J : Gm → Prop} (h : J g) : StepTo (some (.ct g)) J := ⟨g, .inr rfl, h⟩
def Gets (o : Option Wd) (C : Wd → Prop) : Prop := ∃ w, o = some w ∧ C w
theorem gets_some {w : Wd} {C : Wd → Prop} (h : C w) : Gets (some w) C := ⟨w, rfl, h⟩
theorem loop_by {f : DGF} {s : SF} {ds : List D} (I : Nat → Gm → Prop) {g : Gm} (h0 : I 0 g) (hs : ∀ (i : Nat) (d : D) (g : Gm), ds[i]? = some d → I i g → ∃ g1, f d g = some g1 ∧ StepTo (s g1) (I (i + 1))) :
    ∃ g', loopD f s ds g = some (.nx g') ∧ I ds.length g' := loop_inv I h0 fun i d g hd hI => by
  obtain ⟨g1, h1, g2, h2, h3⟩ := hs i d g hd hI
  exact ⟨g1, g2, h1, h2, h3⟩
theorem loop_then {f : DGF} {s q : SF} {ds : List D} {C : Option Out → Prop} (I : Nat → Gm → Prop) {g : Gm} (h0 : I 0 g) (hs : ∀ (i : Nat) (d : D) (g : Gm), ds[i]? = some d → I i g → ∃ g1, f d g = some g1 ∧ StepTo (s g1) (I (i + 1)))
    (k : ∀ g', I ds.length g' → C (q g')) : C (apSeq (loopD f s ds g) q) := by
  obtain ⟨g', e, h⟩ := loop_by I h0 hs
  rw [e]
  exact k g' h
/-- over a range, the turn's number in slot k -/
theorem rng_by {s : SF} {n k : Nat} (I : Nat → Gm → Prop) {g : Gm} (h0 : I 0 g) (hk : ∀ i g, I i g → okSlot g k = true) (hs : ∀ (i : Nat) (g : Gm), i < n → I i g → StepTo (s (g.set k (some (.v (.int (i : Int)))))) (I (i + 1))) :
    ∃ g', loopD (dName k) s (rngL 0 n) g = some (.nx g') ∧ I n g' := by
  obtain ⟨g', e, h⟩ := loop_by (f := dName k) (s := s) (ds := rngL 0 n) I h0 fun i d g hd hI => by
    obtain ⟨hi, rfl⟩ := rng_get hd
    exact ⟨_, dName_ok (hk i g hI), by rw [Int.zero_add]; exact hs i g hi hI⟩
  rw [rng_len] at h
  exact ⟨g', e, h⟩
theorem rng_then {s q : SF} {n k : Nat} {C : Option Out → Prop} (I : Nat → Gm → Prop) {g : Gm} (h0 : I 0 g) (hk : ∀ i g, I i g → okSlot g k = true) (hs : ∀ (i : Nat) (g : Gm), i < n → I i g → StepTo (s (g.set k (some (.v (.int (i : Int)))))) (I (i + 1)))
    (kk : ∀ g', I n g' → C (q g')) : C (apSeq (loopD (dName k) s (rngL 0 n) g) q) := by
  obtain ⟨g', e, h⟩ := rng_by I h0 hk hs
  rw [e]
  exact kk g' h
/-- numbers below their sizes -/
def Below (ds sizes : List Int) : Prop := ds.length = sizes.length ∧ ∀ (i : Nat) (d s : Int), ds[i]? = some d → sizes[i]? = some s → 0 ≤ d ∧ d < s
theorem Below.get {ds sizes : List Int} (h : Below ds sizes) {i : Nat} {s : Int} (hs : sizes[i]? = some s) : ∃ d, ds[i]? = some d ∧ 0 ≤ d ∧ d < s := by
  have hi : i < sizes.length := (List.getElem?_eq_some_iff.mp hs).1
  rw [← h.1] at hi
  exact ⟨ds[i], List.getElem?_eq_getElem hi, h.2 i _ s (List.getElem?_eq_getElem hi) hs⟩
theorem pow10_12 : powD (.int 10) (.int 12) = some (.int 1000000000000) := by rfl
theorem pow10_18 : powD (.int 10) (.int 18) = some (.int 1000000000000000000) := by rfl
theorem pow10_39 : powD (.int 10) (.int 39) = some (.int (10 ^ 39)) := by rfl
theorem pow10_41 : powD (.int 10) (.int 41) = some (.int (10 ^ 41)) := by rfl
theorem pow10_59 : powD (.int 10) (.int 59) = some (.int (10 ^ 59)) := by rfl
theorem pow10_60 : powD (.int 10) (.int 60) = some (.int (10 ^ 60)) := by rfl
theorem ix_i {ns : List Int} {m : Nat} {j : Int} (h : ns[m]? = some j) : ixD (.lst (iL ns)) (.int (m : Int)) = some (.int j) := ix_l (by rw [iL_get, h] <;> rfl)

theorem mul_lz {ds : List D} {k : Int} (h : k ≤ 100000 ∧ -100000 ≤ k ∧ ds.length * k.toNat ≤ 100000) : mulD (.lst ds) (.int k) = some (.lst (List.replicate k.toNat ds).flatten) := if_pos h
/-- ascending numbers below n -/
def Asc (n : Nat) (hs : List Int) : Prop := hs.Pairwise (· < ·) ∧ ∀ h ∈ hs, 0 ≤ h ∧ h < (n : Int)
def rngI (lo : Int) (n : Nat) : List Int := (List.range n).map fun i => lo + ((i : Nat) : Int)
theorem rngI_iL {lo : Int} {n : Nat} : rngL lo n = iL (rngI lo n) := by unfold rngL rngI iL; rw [List.map_map]; rfl
theorem rngI_pw (lo : Int) (n : Nat) : (rngI lo n).Pairwise (· < ·) := by
  unfold rngI
  rw [List.pairwise_map]
  exact List.pairwise_lt_range.imp fun {a b} h => by omega
theorem rngI_mem {lo : Int} {n : Nat} {k : Int} : k ∈ rngI lo n ↔ lo ≤ k ∧ k < lo + n := by
  unfold rngI
  rw [List.mem_map]
  constructor
  · rintro ⟨i, hi, rfl⟩
    rw [List.mem_range] at hi
    omega
  · rintro ⟨h1, h2⟩
    exact ⟨(k - lo).toNat, List.mem_range.mpr (by omega), by omega⟩
theorem Asc.sub {n : Nat} {hs : List Int} (h : hs.Sublist (rngI 0 n)) : Asc n hs :=
  ⟨(rngI_pw 0 n).sublist h, fun k hk => by have := rngI_mem.mp (h.subset hk); omega⟩
theorem Asc.of_sub {n : Nat} {hs ks : List Int} (h : Asc n ks) (s : hs.Sublist ks) : Asc n hs := ⟨h.1.sublist s, fun k hk => h.2 k (s.subset hk)⟩
theorem Asc.nodup {n : Nat} {hs : List Int} (h : Asc n hs) : hs.Nodup := h.1.imp fun q => by omega
theorem Asc.len {n : Nat} {hs : List Int} (h : Asc n hs) : hs.length ≤ n := by
  have s : ∀ (ks : List Int) (m : Int), ks.Pairwise (· < ·) → (∀ k ∈ ks, m ≤ k ∧ k < (n : Int)) → m ≤ n → (ks.length : Int) ≤ n - m := by
    intro ks
    induction ks with
    | nil => intro m _ _ hm; simp; omega
    | cons k ks ih =>
      intro m hp hk hm
      have hp' := List.pairwise_cons.mp hp
      have := hk k List.mem_cons_self
      have ih := ih (k + 1) hp'.2 (fun j hj => ⟨by have := hp'.1 j hj; omega, (hk j (List.mem_cons_of_mem _ hj)).2⟩) (by omega)
      rw [List.length_cons]
      omega
  have := s hs 0 h.1 (fun k hk => h.2 k hk) (by omega)
  omega
/-- a comprehension over a range that hands on its own numbers -/
theorem lc_sub {tg : DGF} {tt : DTF} {te : DF} {g : Gm} (lo : Int) : ∀ (is : List Nat), (∀ i, i ∈ is → ∃ g1 b, tg (.int (lo + (i : Nat))) g = some g1 ∧ tt g1 = some b ∧ te g1 = some (.int (lo + (i : Nat)))) →
    ∃ ns, lcL tg tt te g (is.map fun i => .int (lo + ((i : Nat) : Int))) = some (iL ns) ∧ ns.Sublist (is.map fun i => lo + ((i : Nat) : Int))
  | [], _ => ⟨[], rfl, .slnil⟩
  | i :: is, h => by
    obtain ⟨g1, b, h1, h2, h3⟩ := h i List.mem_cons_self
    obtain ⟨ns, h4, h5⟩ := lc_sub lo is fun i hi => h i (List.mem_cons_of_mem _ hi)
    rw [List.map_cons, List.map_cons]
    unfold lcL
    rw [h1, Option.bind_some, h2, Option.bind_some]
    cases b with
    | true => exact ⟨(lo + (i : Nat)) :: ns, by rw [if_pos rfl, h3, Option.bind_some, h4]; rfl, h5.cons_cons _⟩
    | false => exact ⟨ns, by rw [if_neg Bool.false_ne_true, h4], h5.cons _⟩
theorem lc_rng {tg : DGF} {tt : DTF} {te : DF} {g : Gm} {n : Nat} (h : ∀ i, i < n → ∃ g1 b, tg (.int (i : Nat)) g = some g1 ∧ tt g1 = some b ∧ te g1 = some (.int (i : Nat))) :
    ∃ ns, lcL tg tt te g (rngL 0 n) = some (iL ns) ∧ Asc n ns := by
  obtain ⟨ns, h1, h2⟩ := lc_sub (tg := tg) (tt := tt) (te := te) (g := g) 0 (List.range n) fun i hi => by
    rw [Int.zero_add]
    exact h i (List.mem_range.mp hi)
  exact ⟨ns, h1, Asc.sub h2⟩
/-- pairs -/
def pr (a b : Int) : D := .tup [.int a, .int b]
def rowP (n a : Nat) : List D := (List.range (n - (a + 1))).map fun j => pr (a : Int) (((a + 1 + j : Nat)) : Int)
def pairsL (n : Nat) : List D := (List.range n).flatMap (rowP n)
theorem pairsL_mem {n : Nat} {d : D} (h : d ∈ pairsL n) : ∃ a b : Nat, d = pr a b ∧ a < b ∧ b < n := by
  unfold pairsL rowP at h
  obtain ⟨a, ha, h⟩ := List.mem_flatMap.mp h
  obtain ⟨j, hj, h⟩ := List.mem_map.mp h
  rw [List.mem_range] at ha hj
  exact ⟨a, a + 1 + j, h.symm, by omega, by omega⟩
theorem rowP_len (n a : Nat) : (rowP n a).length = n - (a + 1) := by unfold rowP; rw [List.length_map, List.length_range]
theorem flat_len (n : Nat) : ∀ m : Nat, ((List.range m).flatMap (rowP n)).length ≤ m * n
  | 0 => by simp
  | m + 1 => by
    rw [List.range_succ, List.flatMap_append, List.length_append]
    have := flat_len n m
    have e : ([m].flatMap (rowP n)).length = n - (m + 1) := by simp [rowP_len]
    rw [e, Nat.add_one_mul]
    omega

theorem iL_cons {j : Int} {ns : List Int} : D.int j :: iL ns = iL (j :: ns) := rfl
theorem seq_then {o : Option Out} {q : SF} {C : Option Out → Prop} (J : Gm → Prop) (h : ∃ g, o = some (.nx g) ∧ J g) (k : ∀ g, J g → C (q g)) : C (apSeq o q) := by
  obtain ⟨g, e, h⟩ := h
  rw [e]
  exact k g h
/-- a comprehension over a range whose items are ints of a kind -/
theorem lc_all {tg : DGF} {tt : DTF} {te : DF} {g : Gm} (P : Int → Prop) : ∀ (is : List D), (∀ d, d ∈ is → ∃ g1 x, tg d g = some g1 ∧ tt g1 = some true ∧ te g1 = some (.int x) ∧ P x) →
    ∃ xs, lcL tg tt te g is = some (iL xs) ∧ xs.length = is.length ∧ ∀ x ∈ xs, P x
  | [], _ => ⟨[], rfl, rfl, fun x h => by cases h⟩
  | d :: is, h => by
    obtain ⟨g1, x, h1, h2, h3, h4⟩ := h d List.mem_cons_self
    obtain ⟨xs, h5, h6, h7⟩ := lc_all P is fun d hd => h d (List.mem_cons_of_mem _ hd)
    refine ⟨x :: xs, ?_, by rw [List.length_cons, List.length_cons, h6], fun y hy => ?_⟩
    · unfold lcL
      rw [h1, Option.bind_some, h2, Option.bind_some, if_pos rfl, h3, Option.bind_some, h5]
      rfl
    · rcases List.mem_cons.mp hy with e | e
      · rw [e]; exact h4
      · exact h7 y e
theorem ix_tup_in {ds : List Int} {k : Int} (h0 : 0 ≤ k) (h : k < ds.length) : ∃ x, x ∈ ds ∧ ixD (.tup (iL ds)) (.int k) = some (.int x) := by
  obtain ⟨m, rfl⟩ := Int.eq_ofNat_of_zero_le h0
  have hm : m < ds.length := by omega
  exact ⟨ds[m], List.getElem_mem hm, ix_t (by rw [iL_get, List.getElem?_eq_getElem hm] <;> rfl)⟩
theorem ix_lst_in {ds : List Int} {k : Int} (h0 : 0 ≤ k) (h : k < ds.length) : ∃ x, x ∈ ds ∧ ixD (.lst (iL ds)) (.int k) = some (.int x) := by
  obtain ⟨m, rfl⟩ := Int.eq_ofNat_of_zero_le h0
  have hm : m < ds.length := by omega
  exact ⟨ds[m], List.getElem_mem hm, ix_l (by rw [iL_get, List.getElem?_eq_getElem hm] <;> rfl)⟩
theorem ix_mem {ds : List D} {k : Int} (h0 : 0 ≤ k) (h : k < ds.length) : ∃ d, d ∈ ds ∧ ixD (.lst ds) (.int k) = some d := by
  obtain ⟨m, rfl⟩ := Int.eq_ofNat_of_zero_le h0
  have hm : m < ds.length := by omega
  exact ⟨ds[m], List.getElem_mem hm, ix_l (List.getElem?_eq_getElem hm)⟩
/-- what was drawn, at a place -/
theorem Below.ix {ds sizes : List Int} (h : Below ds sizes) {m : Nat} {k s : Int} (e : k = (m : Int)) (hs : sizes[m]? = some s) : ∃ d, ixD (.lst (iL ds)) (.int k) = some (.int d) ∧ 0 ≤ d ∧ d < s := by
  obtain ⟨d, h1, h2⟩ := h.get hs
  exact ⟨d, by rw [e]; exact ix_i h1, h2⟩
theorem flat4_iL (ns : List Int) : (iL ns).all D.flat4 = true := by
  unfold iL
  rw [List.all_map]
  exact List.all_eq_true.mpr fun x _ => rfl
theorem any_iL (ns : List Int) (k : Int) : ((iL ns).any fun z => eqF z (.int k)) = ns.contains k := by
  unfold iL
  rw [List.any_map, List.contains_eq_any_beq]
  congr 1
  funext x
  show (x == k) = (k == x)
  exact Bool.eq_iff_iff.mpr ⟨fun h => by rw [eq_of_beq h]; exact beq_self_eq_true _, fun h => by rw [eq_of_beq h]; exact beq_self_eq_true _⟩
theorem in_l {ns : List Int} {k : Int} : inD (.int k) (.lst (iL ns)) = some (.bl (ns.contains k)) := by
  show (if ((D.int k).flat4 && (iL ns).all D.flat4) = true then some ((iL ns).any fun z => eqF z (.int k)) else none).map D.bl = _
  rw [flat4_iL, any_iL]
  rfl
theorem in_t {ns : List Int} {k : Int} : inD (.int k) (.tup (iL ns)) = some (.bl (ns.contains k)) := by
  show (if ((D.int k).flat4 && (iL ns).all D.flat4) = true then some ((iL ns).any fun z => eqF z (.int k)) else none).map D.bl = _
  rw [flat4_iL, any_iL]
  rfl
theorem in_pr {a b k : Int} : inD (.int k) (pr a b) = some (.bl ([a, b].contains k)) := in_t (ns := [a, b])
/-- rows of seats -/
def rowsL (hs : List (List Int)) : List D := hs.map fun h => .lst (iL h)
def rowsT (hs : List (List Int)) : List D := hs.map fun h => .tup (iL h)
structure PoolOk (caps : List Int) (hs : List (List Int)) (m : Nat) : Prop where
  s1 : 1 ≤ caps.length
  s12 : caps.length ≤ 12
  c0 : ∀ c ∈ caps, 0 ≤ c ∧ c < 10 ^ 60
  pm : hs.length ≤ m
  asc : ∀ h ∈ hs, Asc caps.length h
theorem cutL_sub {α : Type} (xs : List α) (lo hi : Option Int) : (cutL xs lo hi).Sublist xs := by
  unfold cutL
  exact (List.take_sublist _ _).trans (List.drop_sublist _ _)
theorem cutL_iL (xs : List Int) (lo hi : Option Int) : cutL (iL xs) lo hi = iL (cutL xs lo hi) := by
  unfold cutL iL
  rw [List.length_map, List.map_take, List.map_drop]
theorem call1 {gf : PF} {a0 : D} : apCall 1 gf (some [a0]) = (gf [a0]).map Wd.d := rfl
theorem callO1 {gf : PF} {a0 : D} : apCallO 1 gf (some [a0]) = toO (gf [a0]) := rfl
theorem call2 {gf : PF} {a0 a1 : D} : apCall 2 gf (some [a0, a1]) = (gf [a0, a1]).map Wd.d := rfl
theorem callO2 {gf : PF} {a0 a1 : D} : apCallO 2 gf (some [a0, a1]) = toO (gf [a0, a1]) := rfl
theorem call3 {gf : PF} {a0 a1 a2 : D} : apCall 3 gf (some [a0, a1, a2]) = (gf [a0, a1, a2]).map Wd.d := rfl
theorem callO3 {gf : PF} {a0 a1 a2 : D} : apCallO 3 gf (some [a0, a1, a2]) = toO (gf [a0, a1, a2]) := rfl
theorem call4 {gf : PF} {a0 a1 a2 a3 : D} : apCall 4 gf (some [a0, a1, a2, a3]) = (gf [a0, a1, a2, a3]).map Wd.d := rfl
theorem callO4 {gf : PF} {a0 a1 a2 a3 : D} : apCallO 4 gf (some [a0, a1, a2, a3]) = toO (gf [a0, a1, a2, a3]) := rfl
theorem call5 {gf : PF} {a0 a1 a2 a3 a4 : D} : apCall 5 gf (some [a0, a1, a2, a3, a4]) = (gf [a0, a1, a2, a3, a4]).map Wd.d := rfl
theorem callO5 {gf : PF} {a0 a1 a2 a3 a4 : D} : apCallO 5 gf (some [a0, a1, a2, a3, a4]) = toO (gf [a0, a1, a2, a3, a4]) := rfl
theorem call6 {gf : PF} {a0 a1 a2 a3 a4 a5 : D} : apCall 6 gf (some [a0, a1, a2, a3, a4, a5]) = (gf [a0, a1, a2, a3, a4, a5]).map Wd.d := rfl
theorem callO6 {gf : PF} {a0 a1 a2 a3 a4 a5 : D} : apCallO 6 gf (some [a0, a1, a2, a3, a4, a5]) = toO (gf [a0, a1, a2, a3, a4, a5]) := rfl
theorem dgTup2_a {m : DGFs} {a b : D} {g : Gm} : dgTup 2 m (.tup [a, b]) g = m [a, b] g := rfl
theorem dgTup3_a {m : DGFs} {a b e : D} {g : Gm} : dgTup 3 m (.tup [a, b, e]) g = m [a, b, e] g := rfl
end Zk
end

section
set_option Elab.async false
set_option linter.all false
set_option maxRecDepth 100000
set_option maxHeartbeats 2000000
/-! What the laws' own helpers are worth. -/
namespace Zc
open PySem L2 Zk
structure Cs where
  Pool : Addr
def t_are_different : SF :=
 (sSeq (sIf (dNotT (tDt truD (dN allD (aCons (dLc (dItems (dVar 0)) (dName 2) dYes (dChain leD ltD (dC (.int 0)) (dVar 2) (dVar 1)) [2]) aNil))))
 (sRet (dC (.bl false)))
 sNext)
 (sRet (d2 eqD (d1 lenSetD (dVar 0)) (dN lenD (aCons (dVar 0) aNil)))))
def g_are_different : PF := runG 1 (t_are_different)
def t_ordered_holders : SF :=
 (sSeq (sFor (dEnum (aCons (dVar 0) aNil)) (dgTup 2 (dgCons (dName 2) (dgCons (dName 3) dgNil)))
 (sIf (dNotT (tDt truD (dCall 2 (g_are_different) (aCons (dVar 3) (aCons (dVar 1) aNil)))))
 sNever
 sNext))
 (sRet (dN tupleD (aCons (dLc (dItems (dVar 0)) (dName 3) dYes (dN tupleD (aCons (dN sortedD (aCons (dVar 3) aNil)) aNil)) [3]) aNil))))
def g_ordered_holders : PF := runG 2 (t_ordered_holders)
def t_Pool_init (c : Cs) : SF :=
 (sSeq (sIf (dOrT (tDt blD (d2 eqD (dN lenD (aCons (dVar 1) aNil)) (dC (.int 0)))) (tDt blD (d2 ltD (dN minD (aCons (dVar 1) aNil)) (dC (.int 0)))))
 sNever
 sNext)
 (sSeq (sFldD c.Pool 0 "caps" (dN tupleD (aCons (dVar 1) aNil)))
 (sSeq (sFldD c.Pool 0 "holders" (dCall 2 (g_ordered_holders) (aCons (dVar 2) (aCons (dN lenD (aCons (dVar 1) aNil)) aNil))))
 (sSeq (sFldD c.Pool 0 "seats" (peekF (dN lenD (aCons (d1 (fldD c.Pool "caps") (dVar 0)) aNil))))
 (sFldD c.Pool 0 "pieces" (peekF (dN lenD (aCons (d1 (fldD c.Pool "holders") (dVar 0)) aNil))))))))
def g_Pool_init (c : Cs) : List D → Option (List (Str × D)) := runI c.Pool 0 (t_Pool_init c)
def t_pair_room (c : Cs) : SF :=
 (sSeq (sAsg (dVar 1) (dgTup 2 (dgCons (dName 2) (dgCons (dName 3) dgNil))))
 (sRet (dN minD (aCons (d2 ixD (d1 (fldD c.Pool "caps") (dVar 0)) (dVar 2)) (aCons (d2 ixD (d1 (fldD c.Pool "caps") (dVar 0)) (dVar 3)) aNil)))))
def g_pair_room (c : Cs) : PF := runG 2 (t_pair_room c)
def t_pairs_with_room (c : Cs) : SF :=
 (sSeq (sAsg (dLc (dItems (dVar 1)) (dName 3) (tDt blD (d2 gtD (d2 ixD (d1 (fldD c.Pool "caps") (dVar 0)) (dVar 3)) (dC (.int 0)))) (dVar 3) [3]) (dName 2))
 (sRetO (dLc2 (dEnum (aCons (dVar 2) aNil)) (dgTup 2 (dgCons (dName 4) (dgCons (dName 5) dgNil))) dYes (dItems (dSl (dVar 2) (oSome (d2 addD (dVar 4) (dC (.int 1)))) oNone)) (dName 6) dYes (dN mkTup (aCons (dVar 5) (aCons (dVar 6) aNil))) [4, 5, 6] [6])))
def g_pairs_with_room (c : Cs) : PF := runG 5 (t_pairs_with_room c)
def t_held_pairs (c : Cs) : SF :=
 (sRetO (dCallO 2 (g_pairs_with_room c) (aCons (dVar 0) (aCons (d2 ixD (d1 (fldD c.Pool "holders") (dVar 0)) (dVar 1)) aNil))))
def g_held_pairs (c : Cs) : PF := runG 0 (t_held_pairs c)
def t_law_cell : SF :=
 (sSeq (sIf (tDt blD (d2 ltD (dVar 1) (dN lenD (aCons (dVar 0) aNil))))
 (sRet (d2 ixD (dVar 0) (dVar 1)))
 sNext)
 (sRet (dC (.int 0))))
def g_law_cell : PF := runG 0 (t_law_cell)
def t_law_draws : SF :=
 (sSeq (sAsg (dN absD (aCons (dN intD (aCons (dVar 0) aNil)) aNil)) (dName 2))
 (sSeq (sAsg (d2 geD (dVar 2) (d2 powD (dC (.int 10)) (dC (.int 18)))) (dName 3))
 (sSeq (sAsgO (dN mkLst aNil) 4)
 (sSeq (sFor (dRng1 (aCons (dN lenD (aCons (dVar 1) aNil)) aNil)) (dName 5)
 (sSeq (sAsg (d2 ixD (dVar 1) (dVar 5)) (dName 6))
 (sIf (dAndT (tDt truD (dVar 3)) (tDt blD (d2 gtD (dVar 2) (dC (.int 0)))))
 (sSeq (sApp 4 (d2 modD (dN intD (aCons (dVar 2) aNil)) (dVar 6)))
 (sAsg (d2 fdivD (dVar 2) (dVar 6)) (dName 2)))
 (sSeq (sAsg (d2 modD (dN intD (aCons (d2 addD (d2 addD (dN absD (aCons (dN intD (aCons (dVar 0) aNil)) aNil)) (d2 mulD (dC (.int 7919)) (dVar 5))) (dC (.int 13))) aNil)) (dC (.int 2147483647))) (dName 7))
 (sSeq (sAsg (d2 modD (dN intD (aCons (d2 mulD (dVar 7) (d2 addD (dVar 7) (dC (.int 48271)))) aNil)) (dC (.int 2147483629))) (dName 7))
 (sSeq (sAsg (d2 modD (dN intD (aCons (d2 addD (d2 mulD (dVar 7) (d2 addD (dVar 7) (dC (.int 69621)))) (d2 mulD (dC (.int 31)) (dVar 5))) aNil)) (dC (.int 2147483647))) (dName 7))
 (sApp 4 (d2 modD (dN intD (aCons (d2 fdivD (dVar 7) (dC (.int 9))) aNil)) (dVar 6)))))))))
 (sRetV 4)))))
def g_law_draws : PF := runG 6 (t_law_draws)
def t_law_bits : SF :=
 (sRetO (dLc (dRng1 (aCons (dVar 1) aNil)) (dName 2) (tDt blD (d2 eqD (d2 modD (dN intD (aCons (d2 fdivD (dVar 0) (d2 ixD (dN mkTup (aCons (dC (.int 1)) (aCons (dC (.int 2)) (aCons (dC (.int 4)) (aCons (dC (.int 8)) (aCons (dC (.int 16)) (aCons (dC (.int 32)) (aCons (dC (.int 64)) aNil)))))))) (dVar 2))) aNil)) (dC (.int 2))) (dC (.int 1)))) (dVar 2) [2]))
def g_law_bits : PF := runG 1 (t_law_bits)
def t_law_pairs : SF :=
 (sSeq (sAsgO (dN mkLst aNil) 1)
 (sSeq (sFor (dRng1 (aCons (dVar 0) aNil)) (dName 2)
 (sFor (dRng2 (aCons (d2 addD (dVar 2) (dC (.int 1))) (aCons (dVar 0) aNil))) (dName 3)
 (sApp 1 (dN mkTup (aCons (dVar 2) (aCons (dVar 3) aNil))))))
 (sRetV 1)))
def g_law_pairs : PF := runG 3 (t_law_pairs)
def t_law_pool : SF :=
 (sSeq (sAsg (dCall 2 (g_law_draws) (aCons (dVar 0) (aCons (d2 addD (d2 addD (d2 addD (dN mkLst (aCons (dC (.int 5)) (aCons (d2 addD (dVar 1) (dC (.int 1))) (aCons (dC (.int 5)) aNil)))) (d2 mulD (dN mkLst (aCons (dC (.int 6)) aNil)) (dC (.int 5)))) (d2 mulD (dN mkLst (aCons (dC (.int 32)) aNil)) (dC (.int 8)))) (d2 mulD (dN mkLst (aCons (dC (.int 10)) aNil)) (dC (.int 8)))) aNil))) (dName 2))
 (sSeq (sAsg (d2 addD (d2 ixD (dVar 2) (dC (.int 0))) (dC (.int 1))) (dName 3))
 (sSeq (sAsg (dLc (dRng1 (aCons (dVar 3) aNil)) (dName 10) dYes (d2 ixD (dN mkTup (aCons (dC (.int 0)) (aCons (dC (.int 1)) (aCons (dC (.int 1)) (aCons (dC (.int 2)) (aCons (dC (.int 3)) (aCons (d2 addD (d2 powD (dC (.int 10)) (dC (.int 12))) (dVar 10)) aNil))))))) (d2 ixD (dVar 2) (d2 addD (dC (.int 3)) (dVar 10)))) [10]) (dName 4))
 (sSeq (sAsg (dCall 1 (g_law_pairs) (aCons (dVar 3) aNil)) (dName 5))
 (sSeq (sAsgO (dN mkLst aNil) 6)
 (sSeq (sFor (dRng1 (aCons (d2 ixD (dVar 2) (dC (.int 1))) aNil)) (dName 7)
 (sSeq (sAsg (dCall 2 (g_law_bits) (aCons (d2 ixD (dVar 2) (d2 addD (dC (.int 8)) (dVar 7))) (aCons (dVar 3) aNil))) (dName 8))
 (sSeq (sIf (dAndT (tDt blD (d2 eqD (d2 ixD (dVar 2) (dC (.int 2))) (dC (.int 1)))) (tDt blD (d2 gtD (dN lenD (aCons (dVar 5) aNil)) (dC (.int 0)))))
 (sSeq (sAsg (d2 ixD (dVar 5) (d2 modD (dN intD (aCons (d2 ixD (dVar 2) (d2 addD (dC (.int 16)) (dVar 7))) aNil)) (dN lenD (aCons (dVar 5) aNil)))) (dName 9))
 (sAsg (dLc (dRng1 (aCons (dVar 3) aNil)) (dName 10) (dOrT (tDt blD (d2 inD (dVar 10) (dVar 8))) (tDt blD (d2 inD (dVar 10) (dVar 9)))) (dVar 10) [10]) (dName 8)))
 sNext)
 (sSeq (sIf (dAndT (tDt blD (d2 eqD (d2 ixD (dVar 2) (dC (.int 2))) (dC (.int 2)))) (tDt blD (d2 gtD (dN lenD (aCons (dVar 5) aNil)) (dC (.int 0)))))
 (sAsg (dN listD (aCons (d2 ixD (dVar 5) (d2 modD (dN intD (aCons (d2 ixD (dVar 2) (d2 addD (dC (.int 16)) (dVar 7))) aNil)) (dN lenD (aCons (dVar 5) aNil)))) aNil)) (dName 8))
 sNext)
 (sSeq (sIf (tDt blD (d2 eqD (d2 ixD (dVar 2) (dC (.int 2))) (dC (.int 3))))
 (sAsg (dCall 2 (g_law_bits) (aCons (d2 ixD (dVar 2) (d2 addD (dC (.int 8)) (d2 fdivD (dVar 7) (dC (.int 4))))) (aCons (dVar 3) aNil))) (dName 8))
 sNext)
 (sApp 6 (dVar 8)))))))
 (sSeq (sIf (tDt blD (d2 eqD (d2 ixD (dVar 2) (dC (.int 2))) (dC (.int 4))))
 (sAsg (dLc (dRng1 (aCons (dVar 3) aNil)) (dName 10) dYes (d2 ixD (dVar 4) (dC (.int 0))) [10]) (dName 4))
 sNext)
 (sFrz [6] (sRet (dN mkTup (aCons (dVar 4) (aCons (dVar 6) aNil))))))))))))
def g_law_pool : PF := runG 9 (t_law_pool)
def t_law_wide_bits : SF :=
 (sSeq (sAsg (dN intD (aCons (dVar 0) aNil)) (dName 2))
 (sSeq (sAsgO (dN mkLst aNil) 3)
 (sSeq (sFor (dRng1 (aCons (dVar 1) aNil)) (dName 4)
 (sSeq (sIf (tDt blD (d2 eqD (d2 modD (dN intD (aCons (dVar 2) aNil)) (dC (.int 2))) (dC (.int 1))))
 (sApp 3 (dVar 4))
 sNext)
 (sAsg (d2 fdivD (dVar 2) (dC (.int 2))) (dName 2))))
 (sRetV 3))))
def g_law_wide_bits : PF := runG 3 (t_law_wide_bits)
def t_law_wide_pool : SF :=
 (sSeq (sAsg (dCall 2 (g_law_draws) (aCons (dVar 0) (aCons (d2 addD (d2 addD (dN mkLst (aCons (dC (.int 5)) (aCons (d2 addD (dVar 1) (dC (.int 1))) (aCons (dC (.int 3)) aNil)))) (d2 mulD (dN mkLst (aCons (dC (.int 10)) aNil)) (dC (.int 12)))) (d2 mulD (dN mkLst (aCons (dC (.int 4096)) aNil)) (dC (.int 60)))) aNil))) (dName 2))
 (sSeq (sAsg (d2 addD (d2 ixD (dVar 2) (dC (.int 0))) (dC (.int 8))) (dName 3))
 (sSeq (sAsg (dLc (dRng1 (aCons (dVar 3) aNil)) (dName 8) dYes (d2 ixD (dN mkTup (aCons (dC (.int 0)) (aCons (dC (.int 1)) (aCons (dC (.int 2)) (aCons (dC (.int 3)) (aCons (dC (.int 4)) (aCons (dC (.int 7)) (aCons (dC (.int 9)) (aCons (dC (.int 10)) (aCons (dC (.int 11)) (aCons (d2 addD (d2 powD (dC (.int 10)) (dC (.int 39))) (dVar 8)) aNil))))))))))) (d2 ixD (dVar 2) (d2 addD (dC (.int 3)) (dVar 8)))) [8]) (dName 4))
 (sSeq (sAsgO (dN mkLst aNil) 5)
 (sSeq (sFor (dRng1 (aCons (d2 ixD (dVar 2) (dC (.int 1))) aNil)) (dName 6)
 (sSeq (sAsg (dCall 2 (g_law_wide_bits) (aCons (d2 ixD (dVar 2) (d2 addD (dC (.int 15)) (dVar 6))) (aCons (dVar 3) aNil))) (dName 7))
 (sSeq (sIf (tDt blD (d2 eqD (d2 ixD (dVar 2) (dC (.int 2))) (dC (.int 1))))
 (sAsg (dSl (dVar 7) oNone (oSome (dC (.int 2)))) (dName 7))
 sNext)
 (sSeq (sIf (tDt blD (d2 eqD (d2 ixD (dVar 2) (dC (.int 2))) (dC (.int 2))))
 (sAsg (dSl (dVar 7) (oSome (dN maxD (aCons (dC (.int 0)) (aCons (d2 subD (dN lenD (aCons (dVar 7) aNil)) (dC (.int 2))) aNil)))) oNone) (dName 7))
 sNext)
 (sApp 5 (dVar 7))))))
 (sFrz [5] (sRet (dN mkTup (aCons (dVar 4) (aCons (dVar 5) aNil))))))))))
def g_law_wide_pool : PF := runG 7 (t_law_wide_pool)
def t_law_is_integer : SF :=
 (sRet (dAndV (dN isiD (aCons (dVar 0) (aCons (dC (.ty "int")) aNil))) (d1 notD (dN isiD (aCons (dVar 0) (aCons (dC (.ty "bool")) aNil))))))
def g_law_is_integer : PF := runG 0 (t_law_is_integer)
def t_law_is_pool (c : Cs) : SF :=
 (sSeq (sIf (dOrT (dNotT (tDt truD (dN isiD (aCons (d1 (fldD c.Pool "caps") (dVar 0)) (aCons (dC (.ty "tuple")) aNil))))) (dNotT (tDt truD (dN isiD (aCons (d1 (fldD c.Pool "holders") (dVar 0)) (aCons (dC (.ty "tuple")) aNil))))))
 (sRet (dC (.bl false)))
 sNext)
 (sSeq (sIf (dOrT (dNotT (tDt truD (dCall 1 (g_law_is_integer) (aCons (d1 (fldD c.Pool "seats") (dVar 0)) aNil)))) (dNotT (tDt truD (dCall 1 (g_law_is_integer) (aCons (d1 (fldD c.Pool "pieces") (dVar 0)) aNil)))))
 (sRet (dC (.bl false)))
 sNext)
 (sSeq (sIf (dOrT (tDt blD (d2 neD (d1 (fldD c.Pool "seats") (dVar 0)) (dN lenD (aCons (dVar 1) aNil)))) (tDt blD (d2 neD (d1 (fldD c.Pool "pieces") (dVar 0)) (dN lenD (aCons (dVar 2) aNil)))))
 (sRet (dC (.bl false)))
 sNext)
 (sSeq (sIf (dOrT (tDt blD (d2 neD (dN lenD (aCons (d1 (fldD c.Pool "caps") (dVar 0)) aNil)) (dN lenD (aCons (dVar 1) aNil)))) (tDt blD (d2 neD (dN lenD (aCons (d1 (fldD c.Pool "holders") (dVar 0)) aNil)) (dN lenD (aCons (dVar 2) aNil)))))
 (sRet (dC (.bl false)))
 sNext)
 (sSeq (sFor (dRng1 (aCons (dN lenD (aCons (dVar 1) aNil)) aNil)) (dName 3)
 (sIf (dOrT (dNotT (tDt truD (dCall 1 (g_law_is_integer) (aCons (d2 ixD (d1 (fldD c.Pool "caps") (dVar 0)) (dVar 3)) aNil)))) (tDt blD (d2 neD (d2 ixD (d1 (fldD c.Pool "caps") (dVar 0)) (dVar 3)) (d2 ixD (dVar 1) (dVar 3)))))
 (sRet (dC (.bl false)))
 sNext))
 (sSeq (sFor (dRng1 (aCons (dN lenD (aCons (dVar 2) aNil)) aNil)) (dName 4)
 (sSeq (sAsg (d2 ixD (d1 (fldD c.Pool "holders") (dVar 0)) (dVar 4)) (dName 5))
 (sSeq (sIf (dOrT (dNotT (tDt truD (dN isiD (aCons (dVar 5) (aCons (dC (.ty "tuple")) aNil))))) (tDt blD (d2 neD (dN lenD (aCons (dVar 5) aNil)) (dN lenD (aCons (d2 ixD (dVar 2) (dVar 4)) aNil)))))
 (sRet (dC (.bl false)))
 sNext)
 (sFor (dRng1 (aCons (dN lenD (aCons (dVar 5) aNil)) aNil)) (dName 3)
 (sIf (dOrT (dNotT (tDt truD (dCall 1 (g_law_is_integer) (aCons (d2 ixD (dVar 5) (dVar 3)) aNil)))) (tDt blD (d2 neD (d2 ixD (dVar 5) (dVar 3)) (d2 ixD (d2 ixD (dVar 2) (dVar 4)) (dVar 3)))))
 (sRet (dC (.bl false)))
 sNext)))))
 (sRet (dC (.bl true)))))))))
def g_law_is_pool (c : Cs) : PF := runG 3 (t_law_is_pool c)
local macro_rules | `(tactic| walk_at "zs") => `(tactic| simp only [mul_lz, List.flatten_cons, List.flatten_nil, Int.reduceToNat, add_ll, pow10_12, pow10_18, pow10_39, pow10_41, pow10_59, pow10_60, mkLst_some, mkTup_some, List.length_cons, List.length_nil, Nat.zero_le, Nat.reduceAdd, Nat.reduceLeDiff, call1, callO1, call2, callO2, call3, callO3, call4, callO4, call5, callO5, call6, callO6, ap1_some, ap2_some, apN_some, apC_some, d1_a, d2_a, dN_a, aNil_a, aCons_a, dC_a, dVar_z, dVar_s, tDt_a, apAnd_t, apAnd_f, apOr_t, apOr_f, dAndT_a, dOrT_a, apNot_some, dNotT_a, apAndV_t, apAndV_f, dAndV_a, apOrV_t, apOrV_f, dOrV_a, apIf_t, apIf_f, dIf_a, apCh_t, apCh_f, apChain_some, dChain_a, apSeq_nx, apSeq_rt, apSeq_ct, apSeq_bk, sSeq_a, apIfS_t, apIfS_f, sIf_a, sNext_a, sCont_a, sBreak_a, apRet_some, sRet_a, apRetO_some, sRetO_a, sRetN_a, getO_z, getO_s, apRetV_some, sRetV_a, ltB_z, ltB_s, okSlot_s, apAsg_some, sAsg_a, dName_ok, apG_some, dgCons_a, dgNil_a, apAsgO_some, sAsgO_a, sApp_a, sSetI_a, apFor_some, sFor_a, dItems_a, dRng1_a, dRng2_a, apEn_some, dEnum_a, sFrz_a, frzs_nil, frzs_cons, frzI_o, frzI_v, frzI_n, frzI_s, frz1_s, frzAll_nil, frzAll_o, frzAll_v, frzAll_n, peekT_a, apPk_int, apPk_bl, apPk_str, apPk_non, peekF_a, dCall_a, toO_o, dCallO_a, dMake_a, Wd_v, Wd_o, dSl_a, apSl_some, oNone_a, oSome_a, apO_some, add_ii, sub_ii, lt_ii, le_ii, gt_ii, ge_ii, eq_ii, ne_ii, neg_i, not_b, bl_b, tru_b, tru_i, tru_l, tru_t, tru_n, len_l, len_t, len_scr, abs_i, int_i, list_l, list_t, tuple_l, tuple_t, min_ii, max_ii, rev_l, items_l, items_t, iL_len, run_a, outW_rt, outW_nx, List.map_cons, List.map_nil, List.replicate, List.append_nil, List.cons_append, List.nil_append, List.set_cons_zero, List.set_cons_succ, Option.map_some])
/-! ### draws -/
theorem draws_spec (c : Int) (sizes : List Int) (hs : ∀ s ∈ sizes, 0 < s ∧ s < 2 ^ 60) (hl : sizes.length ≤ 1000) : Gets (g_law_draws [.int c, .lst (iL sizes)]) fun w => ∃ ds, w = .o (.lst (iL ds)) ∧ Below ds sizes := by
  unfold g_law_draws t_law_draws
  walk_at "zs"
  rw [apR1_some (by omega)]
  walk_at "zs"
  refine rng_then (C := fun o => Gets (outW o) _) (fun i g => ∃ (left : Int) (acc : List Int) (dg : Bool) (k sz mx : Option Wd), g = [some (.v (.int c)), some (.v (.lst (iL sizes))), some (.v (.int left)), some (.v (.bl dg)), some (.o (.lst (iL acc))), k, sz, mx] ∧ acc.length = i ∧
    ∀ (j : Nat) (d s : Int), acc[j]? = some d → sizes[j]? = some s → 0 ≤ d ∧ d < s) ?_ ?_ ?_ ?_
  · exact ⟨_, [], _, _, _, _, rfl, rfl, fun j d s h => by simp at h⟩
  · rintro i g ⟨left, acc, dg, k, sz, mx, rfl, _⟩
    rfl
  · rintro i g hi ⟨left, acc, dg, k, sz, mx, rfl, hlen, hb⟩
    have hsz : sizes[i]? = some sizes[i] := List.getElem?_eq_getElem hi
    obtain ⟨p1, p2⟩ := hs sizes[i] (List.getElem_mem hi)
    have fin : ∀ (x : Int), 0 ≤ x ∧ x < sizes[i] → ∀ (j : Nat) (d s : Int), (acc ++ [x])[j]? = some d → sizes[j]? = some s → 0 ≤ d ∧ d < s := fun x hx j d s h1 h2 => by
      by_cases hj : j < acc.length
      · rw [List.getElem?_append_left hj] at h1
        exact hb j d s h1 h2
      · rw [List.getElem?_append_right (by omega)] at h1
        have e : j = acc.length := by
          by_cases e : j = acc.length
          · exact e
          · rw [List.getElem?_eq_none (by simp; omega)] at h1; cases h1
        subst e
        simp at h1
        rw [hlen, hsz] at h2
        cases h2
        rw [← h1]
        exact hx
    have modb : ∀ x : Int, 0 ≤ x % sizes[i] ∧ x % sizes[i] < sizes[i] := fun x => ⟨Int.emod_nonneg _ (by omega), Int.emod_lt_of_pos _ p1⟩
    have mb : ∀ x m : Int, 0 < m → m < 2 ^ 31 → 0 ≤ x % m ∧ x % m < 2 ^ 31 := fun x m h h' => ⟨Int.emod_nonneg _ (by omega), Int.lt_trans (Int.emod_lt_of_pos _ h) h'⟩
    walk_at "zs"
    rw [ix_i hsz]
    walk_at "zs"
    have step2 : StepTo ((sSeq (sAsg (d2 modD (dN intD (aCons (d2 addD (d2 addD (dN absD (aCons (dN intD (aCons (dVar 0) aNil)) aNil)) (d2 mulD (dC (.int 7919)) (dVar 5))) (dC (.int 13))) aNil)) (dC (.int 2147483647))) (dName 7))
 (sSeq (sAsg (d2 modD (dN intD (aCons (d2 mulD (dVar 7) (d2 addD (dVar 7) (dC (.int 48271)))) aNil)) (dC (.int 2147483629))) (dName 7))
 (sSeq (sAsg (d2 modD (dN intD (aCons (d2 addD (d2 mulD (dVar 7) (d2 addD (dVar 7) (dC (.int 69621)))) (d2 mulD (dC (.int 31)) (dVar 5))) aNil)) (dC (.int 2147483647))) (dName 7))
 (sApp 4 (d2 modD (dN intD (aCons (d2 fdivD (dVar 7) (dC (.int 9))) aNil)) (dVar 6)))))) [some (.v (.int c)), some (.v (.lst (iL sizes))), some (.v (.int left)), some (.v (.bl dg)), some (.o (.lst (iL acc))), some (.v (.int (i : Int))), some (.v (.int sizes[i])), mx]) (fun g => ∃ (left : Int) (acc : List Int) (dg : Bool) (k sz mx : Option Wd), g = [some (.v (.int c)), some (.v (.lst (iL sizes))), some (.v (.int left)), some (.v (.bl dg)), some (.o (.lst (iL acc))), k, sz, mx] ∧ acc.length = i + 1 ∧
    ∀ (j : Nat) (d s : Int), acc[j]? = some d → sizes[j]? = some s → 0 ≤ d ∧ d < s) := by
      walk_at "zs"
      rw [mul_small (by decide) (by omega)]
      walk_at "zs"
      rw [mod_ii (by decide)]
      walk_at "zs"
      have b1 := mb ((if c < 0 then -c else c) + 7919 * (i : Int) + 13) 2147483647 (by decide) (by decide)
      generalize ((if c < 0 then -c else c) + 7919 * (i : Int) + 13) % 2147483647 = m1 at b1 ⊢
      rw [mul_small (by omega) (by omega)]
      walk_at "zs"
      rw [mod_ii (by decide)]
      walk_at "zs"
      have b2 := mb (m1 * (m1 + 48271)) 2147483629 (by decide) (by decide)
      generalize (m1 * (m1 + 48271)) % 2147483629 = m2 at b2 ⊢
      rw [mul_small (by omega) (by omega), mul_small (by decide) (by omega)]
      walk_at "zs"
      rw [mod_ii (by decide)]
      walk_at "zs"
      rw [fdiv_ii (by decide) (by decide)]
      walk_at "zs"
      rw [mod_ii p1, apApp_some (by rw [iL_len]; omega), iL_one, iL_app]
      walk_at "zs"
      exact step_nx ⟨left, _, dg, _, _, _, rfl, by simp [hlen], fin _ (modb _)⟩
    cases dg with
    | false =>
      walk_at "zs"
      exact step2
    | true =>
      walk_at "zs"
      by_cases h0 : 0 < left
      · rw [decide_eq_true h0]
        walk_at "zs"
        rw [mod_ii p1, apApp_some (by rw [iL_len]; omega), iL_one, iL_app]
        walk_at "zs"
        rw [fdiv_ii p1 (by omega)]
        walk_at "zs"
        exact step_nx ⟨_, _, true, _, _, _, rfl, by simp [hlen], fin _ (modb _)⟩
      · rw [decide_eq_false h0]
        walk_at "zs"
        exact step2
  · rintro g' ⟨left, acc, dg, k, sz, mx, rfl, hlen, hb⟩
    walk_at "zs"
    exact gets_some ⟨acc, rfl, hlen, hb⟩
/-! ### bits, pairs -/
theorem ix_t7 {m : Nat} {ds : List D} (h : m < ds.length) : ∃ d, ixD (.tup ds) (.int (m : Int)) = some d ∧ d ∈ ds := ⟨ds[m], ix_t (List.getElem?_eq_getElem h), List.getElem_mem h⟩
theorem bits_spec (m : Int) (n : Nat) (hn : n ≤ 7) : Gets (g_law_bits [.int m, .int (n : Int)]) fun w => ∃ hs, w = .o (.lst (iL hs)) ∧ Asc n hs := by
  unfold g_law_bits t_law_bits
  walk_at "zs"
  obtain ⟨hs, h1, h2⟩ := lc_rng (n := n) (tg := dName 2) (tt := (tDt blD (d2 eqD (d2 modD (dN intD (aCons (d2 fdivD (dVar 0) (d2 ixD (dN mkTup (aCons (dC (.int 1)) (aCons (dC (.int 2)) (aCons (dC (.int 4)) (aCons (dC (.int 8)) (aCons (dC (.int 16)) (aCons (dC (.int 32)) (aCons (dC (.int 64)) aNil)))))))) (dVar 2))) aNil)) (dC (.int 2))) (dC (.int 1))))) (te := dVar 2)
    (g := [some (.v (.int m)), some (.v (.int (n : Int))), none]) fun i hi => by
    refine ⟨_, (m / [1, 2, 4, 8, 16, 32, 64].getD i 1 % 2 == 1), dName_ok rfl, ?_, rfl⟩
    walk_at "zs"
    have hi7 : i < 7 := by omega
    have key : ∃ p : Int, ixD (.tup [.int 1, .int 2, .int 4, .int 8, .int 16, .int 32, .int 64]) (.int (i : Int)) = some (.int p) ∧ p = [1, 2, 4, 8, 16, 32, 64].getD i 1 ∧ 0 < p ∧ p ≤ 64 := by
      match i, hi7 with
      | 0, _ => exact ⟨1, rfl, rfl, by decide, by decide⟩
      | 1, _ => exact ⟨2, rfl, rfl, by decide, by decide⟩
      | 2, _ => exact ⟨4, rfl, rfl, by decide, by decide⟩
      | 3, _ => exact ⟨8, rfl, rfl, by decide, by decide⟩
      | 4, _ => exact ⟨16, rfl, rfl, by decide, by decide⟩
      | 5, _ => exact ⟨32, rfl, rfl, by decide, by decide⟩
      | 6, _ => exact ⟨64, rfl, rfl, by decide, by decide⟩
    obtain ⟨p, e1, e2, e3, e4⟩ := key
    rw [e1]
    walk_at "zs"
    rw [fdiv_ii e3 (by have : p.natAbs ≤ 64 := by omega
                       exact Nat.lt_of_le_of_lt this (by decide))]
    walk_at "zs"
    rw [mod_ii (by decide)]
    walk_at "zs"
    rw [e2]
  rw [dLc_eq (ds := rngL 0 n) rfl (by walk_at "zs"; exact apR1_some (by omega)) (by rw [rng_len]; omega) h1]
  walk_at "zs"
  exact gets_some ⟨hs, rfl, h2⟩
theorem pairs_spec (n : Nat) (hn : n ≤ 200) : g_law_pairs [.int (n : Int)] = some (.o (.lst (pairsL n))) := by
  unfold g_law_pairs t_law_pairs
  walk_at "zs"
  rw [apR1_some (by omega)]
  walk_at "zs"
  refine rng_then (C := fun o => outW o = _) (fun i g => ∃ (lo hi : Option Wd), g = [some (.v (.int (n : Int))), some (.o (.lst ((List.range i).flatMap (rowP n)))), lo, hi]) ?_ ?_ ?_ ?_
  · exact ⟨_, _, rfl⟩
  · rintro i g ⟨lo, hi, rfl⟩
    rfl
  · rintro i g hin ⟨lo, hi, rfl⟩
    walk_at "zs"
    rw [apR2_some (by omega), apFor_some]
    have e0 : (((n : Int) - ((i : Int) + 1)).toNat) = n - (i + 1) := by omega
    rw [e0]
    obtain ⟨g', e, ⟨lo', hi', rfl⟩⟩ := loop_by (f := dName 3) (s := sApp 1 (dN mkTup (aCons (dVar 2) (aCons (dVar 3) aNil)))) (ds := rngL ((i : Int) + 1) (n - (i + 1)))
      (fun j g => ∃ (hi : Option Wd), g = [some (.v (.int (n : Int))), some (.o (.lst ((List.range i).flatMap (rowP n) ++ (rowP n i).take j))), some (.v (.int (i : Int))), hi]) (g := [some (.v (.int (n : Int))), some (.o (.lst ((List.range i).flatMap (rowP n)))), some (.v (.int (i : Int))), hi]) ⟨hi, by rw [List.take_zero, List.append_nil]⟩ fun j d g hd ⟨hi, hg⟩ => by
        subst hg
        obtain ⟨hj, rfl⟩ := rng_get hd
        refine ⟨_, dName_ok rfl, ?_⟩
        walk_at "zs"
        have hl := flat_len n i
        have ht : ((rowP n i).take j).length ≤ n := by rw [List.length_take, rowP_len]; omega
        have hb : i * n ≤ 200 * 200 := Nat.mul_le_mul (by omega) hn
        rw [apApp_some (by rw [List.length_append]; omega)]
        walk_at "zs"
        refine step_nx ⟨some (.v (.int ((i : Int) + 1 + (j : Int)))), ?_⟩
        rw [List.take_add_one, List.append_assoc]
        have e2 : (rowP n i)[j]? = some (pr (i : Int) (((i + 1 + j : Nat)) : Int)) := by
          unfold rowP
          rw [List.getElem?_map, List.getElem?_range hj] <;> rfl
        rw [e2]
        have e3 : (((i + 1 + j : Nat)) : Int) = (i : Int) + 1 + (j : Int) := by omega
        rw [e3]
        rfl
    rw [e]
    refine step_nx ⟨some (.v (.int (i : Int))), lo', ?_⟩
    rw [rng_len, List.take_of_length_le (by rw [rowP_len]; exact Nat.le_refl _), List.range_succ, List.flatMap_append]
    simp
  · rintro g' ⟨lo, hi, rfl⟩
    walk_at "zs"
    rfl
theorem wide_bits_spec (m : Int) (n : Nat) (hn : n ≤ 100) : Gets (g_law_wide_bits [.int m, .int (n : Int)]) fun w => ∃ hs, w = .o (.lst (iL hs)) ∧ Asc n hs := by
  unfold g_law_wide_bits t_law_wide_bits
  walk_at "zs"
  rw [apR1_some (by omega)]
  walk_at "zs"
  refine rng_then (C := fun o => Gets (outW o) _) (fun i g => ∃ (left : Int) (acc : List Int) (k : Option Wd), g = [some (.v (.int m)), some (.v (.int (n : Int))), some (.v (.int left)), some (.o (.lst (iL acc))), k] ∧ acc.Sublist (rngI 0 i)) ?_ ?_ ?_ ?_
  · exact ⟨_, [], _, rfl, .slnil⟩
  · rintro i g ⟨left, acc, k, rfl, _⟩
    rfl
  · rintro i g hi ⟨left, acc, k, rfl, hs⟩
    walk_at "zs"
    rw [mod_ii (by decide)]
    walk_at "zs"
    have hl : acc.length ≤ i := by have := hs.length_le; unfold rngI at this; rw [List.length_map, List.length_range] at this; exact this
    have e : rngI 0 (i + 1) = rngI 0 i ++ [((i : Nat) : Int)] := by unfold rngI; rw [List.range_succ, List.map_append]; simp
    cases (left % 2 == 1) with
    | true =>
      walk_at "zs"
      rw [apApp_some (by rw [iL_len]; omega), iL_one, iL_app]
      walk_at "zs"
      rw [fdiv_ii (by decide) (by decide)]
      walk_at "zs"
      refine step_nx ⟨_, _, _, rfl, ?_⟩
      rw [e]
      exact hs.append (List.Sublist.refl _)
    | false =>
      walk_at "zs"
      rw [fdiv_ii (by decide) (by decide)]
      walk_at "zs"
      refine step_nx ⟨_, _, _, rfl, ?_⟩
      rw [e]
      exact hs.trans (List.sublist_append_left _ _)
  · rintro g' ⟨left, acc, k, rfl, hs⟩
    walk_at "zs"
    exact gets_some ⟨acc, rfl, Asc.sub hs⟩
theorem is_integer_int (j : Int) : g_law_is_integer [.int j] = some (.v (.bl true)) := rfl
/-! ### pools -/
theorem pool_sizes (m : Int) : ap2 addD (ap2 addD (ap2 addD (some (.lst [.int 5, .int m, .int 5])) (mulD (.lst [.int 6]) (.int 5))) (mulD (.lst [.int 32]) (.int 8))) (mulD (.lst [.int 10]) (.int 8)) = some (.lst (iL [5, m, 5, 6, 6, 6, 6, 6, 32, 32, 32, 32, 32, 32, 32, 32, 10, 10, 10, 10, 10, 10, 10, 10])) := rfl
theorem rowsL_snoc {hs : List (List Int)} {h : List Int} : rowsL hs ++ [.lst (iL h)] = rowsL (hs ++ [h]) := by unfold rowsL; rw [List.map_append] <;> rfl
theorem pool_spec (c : Int) (most : Nat) (hm : most ≤ 8) : Gets (g_law_pool [.int c, .int (most : Int)]) fun w => ∃ caps hs, w = .v (.tup [.lst (iL caps), .lst (rowsL hs)]) ∧ PoolOk caps hs most := by
  unfold g_law_pool t_law_pool
  walk_at "zs"
  rw [pool_sizes]
  obtain ⟨w, e, ds, rfl, hb⟩ := draws_spec c [5, (most : Int) + 1, 5, 6, 6, 6, 6, 6, 32, 32, 32, 32, 32, 32, 32, 32, 10, 10, 10, 10, 10, 10, 10, 10] (by
    intro s hs
    simp only [List.mem_cons, List.not_mem_nil, or_false] at hs
    omega) (show (24 : Nat) ≤ 1000 by decide)
  walk_at "zs"
  rw [e]
  walk_at "zs"
  obtain ⟨d0, i0, b0⟩ := hb.ix (m := 0) (k := 0) rfl rfl
  obtain ⟨d1, i1, b1⟩ := hb.ix (m := 1) (k := 1) rfl rfl
  obtain ⟨d2', i2, b2⟩ := hb.ix (m := 2) (k := 2) rfl rfl
  rw [i0]
  walk_at "zs"
  obtain ⟨n, hn⟩ : ∃ n : Nat, d0 + 1 = (n : Int) := ⟨(d0 + 1).toNat, by omega⟩
  rw [hn]
  obtain ⟨caps, hc1, hc2, hc3⟩ := lc_all (tg := dName 10) (tt := dYes) (te := (d2 ixD (dN mkTup (aCons (dC (.int 0)) (aCons (dC (.int 1)) (aCons (dC (.int 1)) (aCons (dC (.int 2)) (aCons (dC (.int 3)) (aCons (d2 addD (d2 powD (dC (.int 10)) (dC (.int 12))) (dVar 10)) aNil))))))) (d2 ixD (dVar 2) (d2 addD (dC (.int 3)) (dVar 10)))))
    (g := [some (.v (.int c)), some (.v (.int (most : Int))), some (.v (.lst (iL ds))), some (.v (.int (n : Int))), none, none, none, none, none, none, none]) (fun x => 0 ≤ x ∧ x < 10 ^ 60) (rngL 0 n) fun d hd => by
    obtain ⟨i, hi, rfl⟩ := rng_mem hd
    obtain ⟨dk, ik, bk⟩ := hb.ix (m := 3 + i) (k := 3 + (0 + (i : Int))) (s := 6) (by omega) (by
      have : i < 5 := by omega
      match i, this with
      | 0, _ => rfl
      | 1, _ => rfl
      | 2, _ => rfl
      | 3, _ => rfl
      | 4, _ => rfl)
    obtain ⟨x, hx, ix⟩ := ix_tup_in (ds := [0, 1, 1, 2, 3, 1000000000000 + (0 + (i : Int))]) (k := dk) (by omega) (by simp; omega)
    refine ⟨_, x, dName_ok rfl, rfl, ?_, ?_⟩
    · walk_at "zs"
      rw [ik]
      walk_at "zs"
      exact ix
    · simp only [List.mem_cons, List.not_mem_nil, or_false] at hx
      omega
  rw [dLc_eq (ds := rngL 0 n) rfl (by walk_at "zs"; exact apR1_some (by omega)) (by rw [rng_len]; omega) hc1]
  walk_at "zs"
  rw [pairs_spec n (by omega)]
  walk_at "zs"
  rw [i1]
  walk_at "zs"
  obtain ⟨m, hm1⟩ : ∃ m : Nat, d1 = (m : Int) := ⟨d1.toNat, by omega⟩
  rw [hm1, apR1_some (by omega)]
  walk_at "zs"
  rw [rng_len] at hc2
  have hpl : (pairsL n).length ≤ n * n := flat_len n n
  refine rng_then (C := fun o => Gets (outW o) _) (fun i g => ∃ (hs : List (List Int)) (k7 k8 k9 : Option Wd) (k10 : Option D), g = [some (.v (.int c)), some (.v (.int (most : Int))), some (.v (.lst (iL ds))), some (.v (.int (n : Int))), some (.v (.lst (iL caps))), some (.v (.lst (pairsL n))), some (.o (.lst (rowsL hs))), k7, k8, k9, k10.map Wd.v] ∧ hs.length = i ∧ ∀ h ∈ hs, Asc n h) ?_ ?_ ?_ ?_
  · exact ⟨[], _, _, _, none, rfl, rfl, fun h z => by cases z⟩
  · rintro i g ⟨hs, k7, k8, k9, k10, rfl, _⟩
    rfl
  · rintro i g hi ⟨hs, k7, k8, k9, k10, rfl, hlen, hasc⟩
    have him : i < 8 := by omega
    obtain ⟨d8, i8, b8⟩ := hb.ix (m := 8 + i) (k := 8 + (i : Int)) (s := 32) (by omega) (by
      match i, him with
      | 0, _ => rfl
      | 1, _ => rfl
      | 2, _ => rfl
      | 3, _ => rfl
      | 4, _ => rfl
      | 5, _ => rfl
      | 6, _ => rfl
      | 7, _ => rfl)
    obtain ⟨d16, i16, b16⟩ := hb.ix (m := 16 + i) (k := 16 + (i : Int)) (s := 10) (by omega) (by
      match i, him with
      | 0, _ => rfl
      | 1, _ => rfl
      | 2, _ => rfl
      | 3, _ => rfl
      | 4, _ => rfl
      | 5, _ => rfl
      | 6, _ => rfl
      | 7, _ => rfl)
    obtain ⟨d84, i84, b84⟩ := hb.ix (m := 8 + i / 4) (k := 8 + (i : Int) / 4) (s := 32) (by omega) (by
      match i, him with
      | 0, _ => rfl
      | 1, _ => rfl
      | 2, _ => rfl
      | 3, _ => rfl
      | 4, _ => rfl
      | 5, _ => rfl
      | 6, _ => rfl
      | 7, _ => rfl)
    walk_at "zs"
    rw [i8]
    walk_at "zs"
    obtain ⟨w, e8, h8, rfl, a8⟩ := bits_spec d8 n (by omega)
    rw [e8]
    walk_at "zs"
    have pk : (pairsL n).length ≠ 0 → ∃ a b : Nat, ixD (.lst (pairsL n)) (.int (d16 % ((pairsL n).length : Int))) = some (.tup [.int (a : Int), .int (b : Int)]) ∧ a < b ∧ b < n := fun h0 => by
      have hp : (0 : Int) < ((pairsL n).length : Int) := by omega
      obtain ⟨d, hd, hi⟩ := ix_mem (ds := pairsL n) (k := d16 % ((pairsL n).length : Int)) (Int.emod_nonneg _ (by omega)) (Int.emod_lt_of_pos _ hp)
      obtain ⟨a, b, rfl, h1, h2⟩ := pairsL_mem hd
      exact ⟨a, b, hi, h1, h2⟩
    have hrl : (rowsL hs).length < 100000 := by unfold rowsL; rw [List.length_map]; omega
    let Ja : Gm → Prop := fun g => ∃ (h' : List Int) (k9 : Option Wd) (k10 : Option D), g = [some (.v (.int c)), some (.v (.int (most : Int))), some (.v (.lst (iL ds))), some (.v (.int (n : Int))), some (.v (.lst (iL caps))), some (.v (.lst (pairsL n))), some (.o (.lst (rowsL hs))), some (.v (.int (i : Int))), some (.v (.lst (iL h'))), k9, k10.map Wd.v] ∧ Asc n h'
    have mk : ∀ (h' : List Int) (k9 : Option Wd) (k10 : Option D), Asc n h' → ∃ g, some (Out.nx [some (.v (.int c)), some (.v (.int (most : Int))), some (.v (.lst (iL ds))), some (.v (.int (n : Int))), some (.v (.lst (iL caps))), some (.v (.lst (pairsL n))), some (.o (.lst (rowsL hs))), some (.v (.int (i : Int))), some (.v (.lst (iL h'))), k9, k10.map Wd.v]) = some (.nx g) ∧ Ja g := fun h' k9 k10 ha => ⟨_, rfl, h', k9, k10, rfl, ha⟩
    refine seq_then (C := fun o => StepTo o _) Ja ?_ ?_
    · rw [i2]
      walk_at "zs"
      cases (d2' == 1)
      · walk_at "zs"
        exact mk _ _ _ a8
      · walk_at "zs"
        by_cases h0 : (pairsL n).length = 0
        · rw [decide_eq_false (by omega)]
          walk_at "zs"
          exact mk _ _ _ a8
        · rw [decide_eq_true (by omega)]
          walk_at "zs"
          rw [i16]
          walk_at "zs"
          rw [mod_ii (by omega)]
          obtain ⟨a, b, hpi, hab, hbn⟩ := pk h0
          walk_at "zs"
          rw [hpi]
          walk_at "zs"
          obtain ⟨ns, hn1, hn2⟩ := lc_rng (n := n) (tg := dName 10) (tt := dOrT (tDt blD (d2 inD (dVar 10) (dVar 8))) (tDt blD (d2 inD (dVar 10) (dVar 9)))) (te := dVar 10)
            (g := [some (.v (.int c)), some (.v (.int (most : Int))), some (.v (.lst (iL ds))), some (.v (.int (n : Int))), some (.v (.lst (iL caps))), some (.v (.lst (pairsL n))), some (.o (.lst (rowsL hs))), some (.v (.int (i : Int))), some (.v (.lst (iL h8))), some (.v (.tup [.int (a : Int), .int (b : Int)])), none]) fun j hj => by
            refine ⟨_, (h8.contains (j : Int) || [(a : Int), (b : Int)].contains (j : Int)), dName_ok rfl, ?_, rfl⟩
            walk_at "zs"
            rw [in_l]
            cases h8.contains (j : Int)
            · walk_at "zs"
              rw [show inD (.int (j : Int)) (.tup [.int (a : Int), .int (b : Int)]) = _ from in_pr]
              walk_at "zs"
              rw [Bool.false_or]
            · walk_at "zs"
              rfl
          rw [dLc_eq (ds := rngL 0 n) (by cases k10 <;> rfl) (by walk_at "zs"; exact apR1_some (by omega)) (by rw [rng_len]; omega) hn1]
          walk_at "zs"
          exact mk _ _ _ hn2
    · rintro g ⟨h', k9, k10, rfl, ha'⟩
      walk_at "zs"
      refine seq_then (C := fun o => StepTo o _) Ja ?_ ?_
      · rw [i2]
        walk_at "zs"
        cases (d2' == 2)
        · walk_at "zs"
          exact mk _ _ _ ha'
        · walk_at "zs"
          by_cases h0 : (pairsL n).length = 0
          · rw [decide_eq_false (by omega)]
            walk_at "zs"
            exact mk _ _ _ ha'
          · rw [decide_eq_true (by omega)]
            walk_at "zs"
            rw [i16]
            walk_at "zs"
            rw [mod_ii (by omega)]
            obtain ⟨a, b, hpi, hab, hbn⟩ := pk h0
            walk_at "zs"
            rw [hpi]
            walk_at "zs"
            refine mk [(a : Int), (b : Int)] _ _ ⟨by simp; omega, ?_⟩
            intro h hh
            simp only [List.mem_cons, List.not_mem_nil, or_false] at hh
            omega
      · rintro g ⟨h', k9, k10, rfl, ha'⟩
        walk_at "zs"
        refine seq_then (C := fun o => StepTo o _) Ja ?_ ?_
        · rw [i2]
          walk_at "zs"
          cases (d2' == 3)
          · walk_at "zs"
            exact mk _ _ _ ha'
          · walk_at "zs"
            rw [fdiv_ii (by decide) (by omega)]
            walk_at "zs"
            rw [i84]
            walk_at "zs"
            obtain ⟨w, e84, h84, rfl, a84⟩ := bits_spec d84 n (by omega)
            rw [e84]
            walk_at "zs"
            exact mk _ _ _ a84
        · rintro g ⟨h', k9, k10, rfl, ha'⟩
          walk_at "zs"
          rw [apApp_some hrl, rowsL_snoc]
          walk_at "zs"
          refine step_nx ⟨hs ++ [h'], _, _, _, _, rfl, ?_, fun h hh => ?_⟩
          · rw [List.length_append, hlen]
            rfl
          · rcases List.mem_append.mp hh with z | z
            · exact hasc h z
            · rw [List.mem_singleton.mp z]; exact ha'
  · rintro g' ⟨hs, k7, k8, k9, k10, rfl, hlen, hasc⟩
    walk_at "zs"
    have ok : ∀ cs : List Int, cs.length = n → (∀ x ∈ cs, 0 ≤ x ∧ x < 10 ^ 60) → PoolOk cs hs most := fun cs h1 h2 => ⟨by omega, by omega, h2, by omega, by rw [h1]; exact hasc⟩
    refine seq_then (C := fun o => Gets (outW o) _) (fun g => ∃ (cs : List Int) (k7 k8 k9 : Option Wd) (k10 : Option D), g = [some (.v (.int c)), some (.v (.int (most : Int))), some (.v (.lst (iL ds))), some (.v (.int (n : Int))), some (.v (.lst (iL cs))), some (.v (.lst (pairsL n))), some (.o (.lst (rowsL hs))), k7, k8, k9, k10.map Wd.v] ∧ PoolOk cs hs most) ?_ ?_
    · rw [i2]
      walk_at "zs"
      cases (d2' == 4)
      · walk_at "zs"
        exact ⟨_, rfl, caps, _, _, _, _, rfl, ok caps hc2 hc3⟩
      · walk_at "zs"
        obtain ⟨cs, e1, e2, e3⟩ := lc_all (tg := dName 10) (tt := dYes) (te := d2 ixD (dVar 4) (dC (.int 0)))
          (g := [some (.v (.int c)), some (.v (.int (most : Int))), some (.v (.lst (iL ds))), some (.v (.int (n : Int))), some (.v (.lst (iL caps))), some (.v (.lst (pairsL n))), some (.o (.lst (rowsL hs))), k7, k8, k9, none]) (fun x => 0 ≤ x ∧ x < 10 ^ 60) (rngL 0 n) fun d hd => by
          obtain ⟨x, hx, ix⟩ := ix_lst_in (ds := caps) (k := 0) (by omega) (by omega)
          refine ⟨_, x, dName_ok rfl, rfl, ?_, hc3 x hx⟩
          walk_at "zs"
          exact ix
        rw [dLc_eq (ds := rngL 0 n) (by cases k10 <;> rfl) (by walk_at "zs"; exact apR1_some (by omega)) (by rw [rng_len]; omega) e1]
        walk_at "zs"
        rw [rng_len] at e2
        exact ⟨_, rfl, cs, _, _, _, _, rfl, ok cs e2 e3⟩
    · rintro g ⟨cs, k7, k8, k9, k10, rfl, hp⟩
      walk_at "zs"
      exact gets_some ⟨cs, hs, rfl, hp⟩
end Zc
end

section
set_option Elab.async false
set_option linter.all false
set_option maxRecDepth 100000
set_option maxHeartbeats 2000000
/-! What the laws' own helpers are worth, the rest. -/
namespace Zc
open PySem L2 Zk
local macro_rules | `(tactic| walk_at "zs") => `(tactic| simp only [dgTup2_a, dgTup3_a, Bool.not_true, Bool.not_false, mul_lz, List.flatten_cons, List.flatten_nil, Int.reduceToNat, add_ll, pow10_12, pow10_18, pow10_39, pow10_41, pow10_59, pow10_60, mkLst_some, mkTup_some, List.length_cons, List.length_nil, Nat.zero_le, Nat.reduceAdd, Nat.reduceLeDiff, call1, callO1, call2, callO2, call3, callO3, call4, callO4, call5, callO5, call6, callO6, ap1_some, ap2_some, apN_some, apC_some, d1_a, d2_a, dN_a, aNil_a, aCons_a, dC_a, dVar_z, dVar_s, tDt_a, apAnd_t, apAnd_f, apOr_t, apOr_f, dAndT_a, dOrT_a, apNot_some, dNotT_a, apAndV_t, apAndV_f, dAndV_a, apOrV_t, apOrV_f, dOrV_a, apIf_t, apIf_f, dIf_a, apCh_t, apCh_f, apChain_some, dChain_a, apSeq_nx, apSeq_rt, apSeq_ct, apSeq_bk, sSeq_a, apIfS_t, apIfS_f, sIf_a, sNext_a, sCont_a, sBreak_a, apRet_some, sRet_a, apRetO_some, sRetO_a, sRetN_a, getO_z, getO_s, apRetV_some, sRetV_a, ltB_z, ltB_s, okSlot_s, apAsg_some, sAsg_a, dName_ok, apG_some, dgCons_a, dgNil_a, apAsgO_some, sAsgO_a, sApp_a, sSetI_a, apFor_some, sFor_a, dItems_a, dRng1_a, dRng2_a, apEn_some, apEn_tup, dEnum_a, sFrz_a, frzs_nil, frzs_cons, frzI_o, frzI_v, frzI_n, frzI_s, frz1_s, frzAll_nil, frzAll_o, frzAll_v, frzAll_n, peekT_a, apPk_int, apPk_bl, apPk_str, apPk_non, peekF_a, dCall_a, toO_o, dCallO_a, dMake_a, Wd_v, Wd_o, dSl_a, apSl_some, oNone_a, oSome_a, apO_some, add_ii, sub_ii, lt_ii, le_ii, gt_ii, ge_ii, eq_ii, ne_ii, neg_i, not_b, bl_b, tru_b, tru_i, tru_l, tru_t, tru_n, len_l, len_t, len_scr, abs_i, int_i, list_l, list_t, tuple_l, tuple_t, min_ii, max_ii, rev_l, items_l, items_t, iL_len, run_a, outW_rt, outW_nx, List.map_cons, List.map_nil, List.replicate, List.append_nil, List.cons_append, List.nil_append, List.set_cons_zero, List.set_cons_succ, Option.map_some])
/-! ### wide pools -/
def wsz (m : Int) : List Int := 5 :: m :: 3 :: (List.replicate 12 10 ++ List.replicate 60 4096)
theorem wide_sizes (m : Int) : ap2 addD (ap2 addD (some (.lst [.int 5, .int m, .int 3])) (mulD (.lst [.int 10]) (.int 12))) (mulD (.lst [.int 4096]) (.int 60)) = some (.lst (iL (wsz m))) := rfl
theorem wsz_a (m : Int) {i : Nat} (h : i < 12) : (wsz m)[3 + i]? = some 10 := by
  rw [Nat.add_comm]
  show (List.replicate 12 (10 : Int) ++ List.replicate 60 4096)[i]? = _
  rw [List.getElem?_append_left (by rw [List.length_replicate]; exact h), List.getElem?_replicate, if_pos h]
theorem wsz_b (m : Int) {i : Nat} (h : i < 60) : (wsz m)[15 + i]? = some 4096 := by
  rw [show 15 + i = (12 + i) + 3 by omega]
  show (List.replicate 12 (10 : Int) ++ List.replicate 60 4096)[12 + i]? = _
  rw [List.getElem?_append_right (by rw [List.length_replicate]; omega), List.length_replicate, List.getElem?_replicate, if_pos (by omega)]
theorem wsz_pos (m : Int) (h : 0 < m ∧ m < 2 ^ 60) : ∀ s ∈ wsz m, 0 < s ∧ s < 2 ^ 60 := by
  intro s hs
  unfold wsz at hs
  simp only [List.mem_cons, List.mem_append, List.mem_replicate] at hs
  rcases hs with rfl | rfl | rfl | ⟨_, rfl⟩ | ⟨_, rfl⟩
  · decide
  · exact h
  · decide
  · decide
  · decide
theorem cutL_sl (xs : List D) (lo hi : Option Int) : (cutL xs lo hi).length ≤ xs.length := (cutL_sub xs lo hi).length_le
theorem wide_pool_spec (c : Int) (most : Nat) (hm : most ≤ 60) : Gets (g_law_wide_pool [.int c, .int (most : Int)]) fun w => ∃ caps hs, w = .v (.tup [.lst (iL caps), .lst (rowsL hs)]) ∧ PoolOk caps hs most := by
  unfold g_law_wide_pool t_law_wide_pool
  walk_at "zs"
  rw [wide_sizes]
  obtain ⟨w, e, ds, rfl, hb⟩ := draws_spec c (wsz ((most : Int) + 1)) (wsz_pos _ (by omega)) (show (75 : Nat) ≤ 1000 by decide)
  walk_at "zs"
  rw [e]
  walk_at "zs"
  obtain ⟨d0, i0, b0⟩ := hb.ix (m := 0) (k := 0) rfl rfl
  obtain ⟨d1, i1, b1⟩ := hb.ix (m := 1) (k := 1) rfl rfl
  obtain ⟨d2', i2, b2⟩ := hb.ix (m := 2) (k := 2) rfl rfl
  rw [i0]
  walk_at "zs"
  obtain ⟨n, hn⟩ : ∃ n : Nat, d0 + 8 = (n : Int) := ⟨(d0 + 8).toNat, by omega⟩
  rw [hn]
  obtain ⟨caps, hc1, hc2, hc3⟩ := lc_all (tg := dName 8) (tt := dYes) (te := (d2 ixD (dN mkTup (aCons (dC (.int 0)) (aCons (dC (.int 1)) (aCons (dC (.int 2)) (aCons (dC (.int 3)) (aCons (dC (.int 4)) (aCons (dC (.int 7)) (aCons (dC (.int 9)) (aCons (dC (.int 10)) (aCons (dC (.int 11)) (aCons (d2 addD (d2 powD (dC (.int 10)) (dC (.int 39))) (dVar 8)) aNil))))))))))) (d2 ixD (dVar 2) (d2 addD (dC (.int 3)) (dVar 8)))))
    (g := [some (.v (.int c)), some (.v (.int (most : Int))), some (.v (.lst (iL ds))), some (.v (.int (n : Int))), none, none, none, none, none]) (fun x => 0 ≤ x ∧ x < 10 ^ 60) (rngL 0 n) fun d hd => by
    obtain ⟨i, hi, rfl⟩ := rng_mem hd
    obtain ⟨dk, ik, bk⟩ := hb.ix (m := 3 + i) (k := 3 + (0 + (i : Int))) (s := 10) (by omega) (wsz_a _ (by omega))
    obtain ⟨x, hx, ix⟩ := ix_tup_in (ds := [0, 1, 2, 3, 4, 7, 9, 10, 11, 10 ^ 39 + (0 + (i : Int))]) (k := dk) (by omega) (by simp; omega)
    refine ⟨_, x, dName_ok rfl, rfl, ?_, ?_⟩
    · walk_at "zs"
      rw [ik]
      walk_at "zs"
      exact ix
    · simp only [List.mem_cons, List.not_mem_nil, or_false] at hx
      omega
  rw [dLc_eq (ds := rngL 0 n) rfl (by walk_at "zs"; exact apR1_some (by omega)) (by rw [rng_len]; omega) hc1]
  walk_at "zs"
  rw [i1]
  walk_at "zs"
  obtain ⟨m, hm1⟩ : ∃ m : Nat, d1 = (m : Int) := ⟨d1.toNat, by omega⟩
  rw [hm1, apR1_some (by omega)]
  walk_at "zs"
  rw [rng_len] at hc2
  let St : List (List Int) → Option Wd → Option Wd → Option Wd → Gm := fun hs k6 k7 k8 => [some (.v (.int c)), some (.v (.int (most : Int))), some (.v (.lst (iL ds))), some (.v (.int (n : Int))), some (.v (.lst (iL caps))), some (.o (.lst (rowsL hs))), k6, k7, k8]
  refine rng_then (C := fun o => Gets (outW o) _) (fun i g => ∃ (hs : List (List Int)) (k6 k7 k8 : Option Wd), g = [some (.v (.int c)), some (.v (.int (most : Int))), some (.v (.lst (iL ds))), some (.v (.int (n : Int))), some (.v (.lst (iL caps))), some (.o (.lst (rowsL hs))), k6, k7, k8] ∧ hs.length = i ∧ ∀ h ∈ hs, Asc n h) ?_ ?_ ?_ ?_
  · exact ⟨[], _, _, _, rfl, rfl, fun h z => by cases z⟩
  · rintro i g ⟨hs, k6, k7, k8, rfl, _⟩
    rfl
  · rintro i g hi ⟨hs, k6, k7, k8, rfl, hlen, hasc⟩
    obtain ⟨d15, i15, b15⟩ := hb.ix (m := 15 + i) (k := 15 + (i : Int)) (s := 4096) (by omega) (wsz_b _ (by omega))
    walk_at "zs"
    rw [i15]
    walk_at "zs"
    obtain ⟨w, e8, h8, rfl, a8⟩ := wide_bits_spec d15 n (by omega)
    rw [e8]
    walk_at "zs"
    have hrl : (rowsL hs).length < 100000 := by unfold rowsL; rw [List.length_map]; omega
    let Ja : Gm → Prop := fun g => ∃ (h' : List Int) (k8 : Option Wd), g = [some (.v (.int c)), some (.v (.int (most : Int))), some (.v (.lst (iL ds))), some (.v (.int (n : Int))), some (.v (.lst (iL caps))), some (.o (.lst (rowsL hs))), some (.v (.int (i : Int))), some (.v (.lst (iL h'))), k8] ∧ Asc n h'
    have mk : ∀ (h' : List Int) (k8 : Option Wd), Asc n h' → ∃ g, some (Out.nx [some (.v (.int c)), some (.v (.int (most : Int))), some (.v (.lst (iL ds))), some (.v (.int (n : Int))), some (.v (.lst (iL caps))), some (.o (.lst (rowsL hs))), some (.v (.int (i : Int))), some (.v (.lst (iL h'))), k8]) = some (.nx g) ∧ Ja g := fun h' k8 ha => ⟨_, rfl, h', k8, rfl, ha⟩
    refine seq_then (C := fun o => StepTo o _) Ja ?_ ?_
    · rw [i2]
      walk_at "zs"
      cases (d2' == 1)
      · walk_at "zs"
        exact mk _ _ a8
      · walk_at "zs"
        rw [cutL_iL]
        exact mk _ _ (a8.of_sub (cutL_sub _ _ _))
    · rintro g ⟨h', k8, rfl, ha'⟩
      walk_at "zs"
      refine seq_then (C := fun o => StepTo o _) Ja ?_ ?_
      · rw [i2]
        walk_at "zs"
        cases (d2' == 2)
        · walk_at "zs"
          exact mk _ _ ha'
        · walk_at "zs"
          rw [cutL_iL]
          exact mk _ _ (ha'.of_sub (cutL_sub _ _ _))
      · rintro g ⟨h', k8, rfl, ha'⟩
        walk_at "zs"
        rw [apApp_some hrl, rowsL_snoc]
        walk_at "zs"
        refine step_nx ⟨hs ++ [h'], _, _, _, rfl, ?_, fun h hh => ?_⟩
        · rw [List.length_append, hlen]
          rfl
        · rcases List.mem_append.mp hh with z | z
          · exact hasc h z
          · rw [List.mem_singleton.mp z]; exact ha'
  · rintro g' ⟨hs, k6, k7, k8, rfl, hlen, hasc⟩
    walk_at "zs"
    exact gets_some ⟨caps, hs, rfl, by omega, by omega, hc3, by omega, by rw [hc2]; exact hasc⟩
end Zc
end

section
set_option Elab.async false
set_option linter.all false
set_option maxRecDepth 100000
set_option maxHeartbeats 2000000
/-! The pool's own class and functions, as the laws use them. -/
namespace Zc
open PySem L2 Zk
local macro_rules | `(tactic| walk_at "zs") => `(tactic| simp only [dgTup2_a, dgTup3_a, Bool.not_true, Bool.not_false, mul_lz, List.flatten_cons, List.flatten_nil, Int.reduceToNat, add_ll, pow10_12, pow10_18, pow10_39, pow10_41, pow10_59, pow10_60, mkLst_some, mkTup_some, List.length_cons, List.length_nil, Nat.zero_le, Nat.reduceAdd, Nat.reduceLeDiff, call1, callO1, call2, callO2, call3, callO3, call4, callO4, call5, callO5, call6, callO6, ap1_some, ap2_some, apN_some, apC_some, d1_a, d2_a, dN_a, aNil_a, aCons_a, dC_a, dVar_z, dVar_s, tDt_a, apAnd_t, apAnd_f, apOr_t, apOr_f, dAndT_a, dOrT_a, apNot_some, dNotT_a, apAndV_t, apAndV_f, dAndV_a, apOrV_t, apOrV_f, dOrV_a, apIf_t, apIf_f, dIf_a, apCh_t, apCh_f, apChain_some, dChain_a, apSeq_nx, apSeq_rt, apSeq_ct, apSeq_bk, sSeq_a, apIfS_t, apIfS_f, sIf_a, sNext_a, sCont_a, sBreak_a, apRet_some, sRet_a, apRetO_some, sRetO_a, sRetN_a, getO_z, getO_s, apRetV_some, sRetV_a, ltB_z, ltB_s, okSlot_s, apAsg_some, sAsg_a, dName_ok, apG_some, dgCons_a, dgNil_a, apAsgO_some, sAsgO_a, sApp_a, sSetI_a, apFor_some, sFor_a, dItems_a, dRng1_a, dRng2_a, apEn_some, apEn_tup, dEnum_a, sFrz_a, frzs_nil, frzs_cons, frzI_o, frzI_v, frzI_n, frzI_s, frz1_s, frzAll_nil, frzAll_o, frzAll_v, frzAll_n, peekT_a, apPk_int, apPk_bl, apPk_str, apPk_non, peekF_a, dCall_a, toO_o, dCallO_a, dMake_a, Wd_v, Wd_o, dSl_a, apSl_some, oNone_a, oSome_a, apO_some, add_ii, sub_ii, lt_ii, le_ii, gt_ii, ge_ii, eq_ii, ne_ii, neg_i, not_b, bl_b, tru_b, tru_i, tru_l, tru_t, tru_n, len_l, len_t, len_scr, abs_i, int_i, list_l, list_t, tuple_l, tuple_t, min_ii, max_ii, rev_l, items_l, items_t, iL_len, run_a, outW_rt, outW_nx, List.map_cons, List.map_nil, List.replicate, List.append_nil, List.cons_append, List.nil_append, List.set_cons_zero, List.set_cons_succ, Option.map_some])
/-! ### items that differ -/
theorem asInts_of (ns : List Int) : asInts (iL ns) = some ns := by
  induction ns with
  | nil => rfl
  | cons n ns ih => show (asInts (iL ns)).map (n :: ·) = _; rw [ih]; rfl
theorem asBls_of {α : Type} (xs : List α) (b : Bool) : asBls (xs.map fun _ => D.bl b) = some (xs.map fun _ => b) := by
  induction xs with
  | nil => rfl
  | cons n ns ih => show (asBls (ns.map _)).map (b :: ·) = _; rw [ih]; rfl
theorem all_true {α : Type} (xs : List α) : allD [.lst (xs.map fun _ => D.bl true)] = some (.bl true) := by
  show (asBls _).map _ = _
  rw [asBls_of]
  show some (D.bl _) = _
  congr 2
  exact List.all_eq_true.mpr fun b hb => by obtain ⟨_, _, rfl⟩ := List.mem_map.mp hb; rfl
theorem dd_nodup {xs : List Int} (h : xs.Nodup) : dd xs = xs := by
  induction xs with
  | nil => rfl
  | cons x xs ih =>
    rw [List.nodup_cons] at h
    unfold dd
    rw [if_neg h.1, ih h.2]
def Hold (n : Nat) (h : List Int) : Prop := h.Nodup ∧ ∀ k ∈ h, 0 ≤ k ∧ k < (n : Int)
theorem Asc.hold {n : Nat} {h : List Int} (a : Asc n h) : Hold n h := ⟨a.nodup, a.2⟩
theorem Hold.perm {n : Nat} {h k : List Int} (a : Hold n h) (p : h.Perm k) : Hold n k := ⟨p.nodup_iff.mp a.1, fun x hx => a.2 x (p.mem_iff.mpr hx)⟩
theorem srt_le (h : List Int) : (srt h).Pairwise (· ≤ ·) := by
  have e := List.pairwise_mergeSort (le := fun a b : Int => decide (a ≤ b)) (fun a b c h1 h2 => by simp at h1 h2 ⊢; omega) (fun a b => by simp; omega) h
  exact e.imp fun q => of_decide_eq_true q
theorem Hold.asc {n : Nat} {h : List Int} (a : Hold n h) : Asc n (srt h) := by
  refine ⟨?_, fun k hk => a.2 k ((srt_perm h).mem_iff.mp hk)⟩
  have e := (srt_le h).and ((srt_perm h).nodup_iff.mpr a.1)
  exact e.imp fun ⟨q, r⟩ => by omega
theorem srt_asc {n : Nat} {h : List Int} (a : Asc n h) : srt h = h := perm_sorted (srt_perm h) (srt_le h) (a.1.imp fun q => by omega)
theorem srt_of {n : Nat} {h k : List Int} (a : Asc n h) (p : k.Perm h) : srt k = h := perm_sorted ((srt_perm k).trans p) (srt_le k) (a.1.imp fun q => by omega)
theorem Hold.len {n : Nat} {h : List Int} (a : Hold n h) : h.length ≤ n := by
  rw [← (srt_perm h).length_eq]
  exact a.asc.len
theorem lenSet_l {h : List Int} (a : h.Nodup) (hl : h.length ≤ 4000) : lenSetD (.lst (iL h)) = some (.int (h.length : Nat)) := by
  unfold lenSetD
  rw [items_l, Option.bind_some, asInts_of, Option.bind_some, if_pos hl, dd_nodup a]
theorem are_different_spec {n : Nat} {h : List Int} (a : Hold n h) (hn : n ≤ 4000) : g_are_different [.lst (iL h), .int (n : Int)] = some (.v (.bl true)) := by
  unfold g_are_different t_are_different
  have hl := a.len
  walk_at "zs"
  have e := lcL_map (tg := dName 2) (tt := dYes) (te := dChain leD ltD (dC (.int 0)) (dVar 2) (dVar 1)) (g := [some (.v (.lst (iL h))), some (.v (.int (n : Int))), none]) (ds := iL h) (fun _ => .bl true) fun d hd => by
    unfold iL at hd
    obtain ⟨k, hk, rfl⟩ := List.mem_map.mp hd
    refine ⟨_, dName_ok rfl, rfl, ?_⟩
    have hk' := a.2 k hk
    walk_at "zs"
    rw [decide_eq_true hk'.1]
    walk_at "zs"
    rw [decide_eq_true hk'.2]
  rw [dLc_eq (ds := iL h) rfl rfl (by rw [iL_len]; omega) e]
  walk_at "zs"
  rw [all_true]
  walk_at "zs"
  rw [lenSet_l a.1 (by omega)]
  walk_at "zs"
  rw [beq_self_eq_true]
/-! ### pools -/
def poolF (caps : List Int) (hs : List (List Int)) : List (Str × D) := [("caps", .tup (iL caps)), ("holders", .tup (rowsT hs)), ("seats", .int (caps.length : Nat)), ("pieces", .int (hs.length : Nat))]
def poolD (c : Cs) (caps : List Int) (hs : List (List Int)) : D := .ins c.Pool (poolF caps hs)
theorem fld_caps {c : Cs} {caps : List Int} {hs : List (List Int)} : fldD c.Pool "caps" (poolD c caps hs) = some (.tup (iL caps)) := if_pos rfl
theorem fld_holders {c : Cs} {caps : List Int} {hs : List (List Int)} : fldD c.Pool "holders" (poolD c caps hs) = some (.tup (rowsT hs)) := if_pos rfl
theorem fld_seats {c : Cs} {caps : List Int} {hs : List (List Int)} : fldD c.Pool "seats" (poolD c caps hs) = some (.int (caps.length : Nat)) := if_pos rfl
theorem fld_pieces {c : Cs} {caps : List Int} {hs : List (List Int)} : fldD c.Pool "pieces" (poolD c caps hs) = some (.int (hs.length : Nat)) := if_pos rfl
theorem runI_eq {C : Addr} {m : Nat} {t : SF} {ds : List D} {gs : List (Str × D)} {r : Gm} (h : t (some (.o (.ins C [])) :: (ds.map (fun d => some (.v d)) ++ List.replicate m none)) = some (.nx (some (.o (.ins C gs)) :: r))) : runI C m t ds = some gs := by
  unfold runI
  rw [h]
  exact if_pos rfl
theorem min_l {ns : List Int} {m : Int} (h : ns.min? = some m) : minD [.lst (iL ns)] = some (.int m) := by
  show (asInts (iL ns)).bind _ = _
  rw [asInts_of, Option.bind_some, h]
  rfl
theorem enumL_get {ds : List D} {i : Nat} {d : D} : ∀ {n : Nat}, (enumL n ds)[i]? = some d → ∃ e, ds[i]? = some e ∧ d = .tup [.int ((n + i : Nat) : Int), e] := by
  induction ds generalizing i with
  | nil => intro n h; cases h
  | cons x ds ih =>
    intro n h
    cases i with
    | zero => exact ⟨x, rfl, by cases h; rfl⟩
    | succ i =>
      obtain ⟨e, h1, h2⟩ := ih (n := n + 1) h
      refine ⟨e, h1, ?_⟩
      rw [h2, show n + 1 + i = n + (i + 1) by omega]
theorem rowsL_get {hs : List (List Int)} {i : Nat} {d : D} (h : (rowsL hs)[i]? = some d) : ∃ r, hs[i]? = some r ∧ d = .lst (iL r) := by
  unfold rowsL at h
  rw [List.getElem?_map] at h
  cases e : hs[i]? with
  | none => rw [e] at h; cases h
  | some r => rw [e] at h; cases h; exact ⟨r, rfl, rfl⟩
theorem srt_l {h : List Int} : sortedD [.lst (iL h)] = some (.lst (iL (srt h))) := by
  show (asInts (iL h)).map _ = _
  rw [asInts_of]
  rfl
theorem fldS {C : Addr} {i : Nat} {f : Str} {a : DF} {g : Gm} {d : D} {gs : List (Str × D)} (ha : a g = some d) (hg : g[i]? = some (some (.o (.ins C gs)))) (hl : gs.length < 1000) : sFldD C i f a g = some (.nx (g.set i (some (.o (.ins C (putD f d gs)))))) := by
  unfold sFldD
  rw [ha, Option.bind_some, hg]
  exact if_pos ⟨rfl, hl⟩
def apFld (C : Addr) (i : Nat) (f : Str) : Option D → SF := fun x g => x.bind fun d => match g[i]? with
  | some (some (.o (.ins C' gs))) => if C' = C ∧ gs.length < 1000 then some (.nx (g.set i (some (.o (.ins C (putD f d gs)))))) else none
  | _ => none
theorem sFldD_a {C : Addr} {i : Nat} {f : Str} {a : DF} {g : Gm} : sFldD C i f a g = apFld C i f (a g) g := rfl
theorem fld0 {C : Addr} {f : Str} {d : D} {gs : List (Str × D)} {r : Gm} (h : gs.length < 1000) : apFld C 0 f (some d) (some (.o (.ins C gs)) :: r) = some (.nx (some (.o (.ins C (putD f d gs))) :: r)) := if_pos ⟨rfl, h⟩
def pf1 (a : D) : List (Str × D) := [("caps", a)]
def pf2 (a b : D) : List (Str × D) := [("caps", a), ("holders", b)]
def pf3 (a b e : D) : List (Str × D) := [("caps", a), ("holders", b), ("seats", e)]
def pf4 (a b e d : D) : List (Str × D) := [("caps", a), ("holders", b), ("seats", e), ("pieces", d)]
theorem put1 {d : D} : putD "caps" d [] = pf1 d := rfl
theorem put2 {a d : D} : putD "holders" d (pf1 a) = pf2 a d := rfl
theorem put3 {a b d : D} : putD "seats" d (pf2 a b) = pf3 a b d := rfl
theorem put4 {a b e d : D} : putD "pieces" d (pf3 a b e) = pf4 a b e d := rfl
theorem fld1 {C : Addr} {f : Str} {a d : D} {r : Gm} : apFld C 0 f (some d) (some (.o (.ins C (pf1 a))) :: r) = some (.nx (some (.o (.ins C (putD f d (pf1 a)))) :: r)) := fld0 (show (1 : Nat) < 1000 by decide)
theorem fld2 {C : Addr} {f : Str} {a b d : D} {r : Gm} : apFld C 0 f (some d) (some (.o (.ins C (pf2 a b))) :: r) = some (.nx (some (.o (.ins C (putD f d (pf2 a b)))) :: r)) := fld0 (show (2 : Nat) < 1000 by decide)
theorem fld3 {C : Addr} {f : Str} {a b e d : D} {r : Gm} : apFld C 0 f (some d) (some (.o (.ins C (pf3 a b e))) :: r) = some (.nx (some (.o (.ins C (putD f d (pf3 a b e)))) :: r)) := fld0 (show (3 : Nat) < 1000 by decide)
theorem pf2_caps {C : Addr} {a b : D} : fldD C "caps" (.ins C (pf2 a b)) = some a := if_pos rfl
theorem pf3_holders {C : Addr} {a b e : D} : fldD C "holders" (.ins C (pf3 a b e)) = some b := if_pos rfl
theorem ordered_spec {n : Nat} {hs : List (List Int)} (h12 : n ≤ 1000) (hl : hs.length ≤ 1000) (hr : ∀ h ∈ hs, Hold n h) :
    g_ordered_holders [.lst (rowsL hs), .int (n : Int)] = some (.v (.tup (rowsT (hs.map srt)))) := by
  unfold g_ordered_holders t_ordered_holders
  walk_at "zs"
  refine loop_then (C := fun o => outW o = _) (fun i g => ∃ (k3 k4 : Option D), g = [some (.v (.lst (rowsL hs))), some (.v (.int (n : Int))), k3.map Wd.v, k4.map Wd.v]) ⟨none, none, rfl⟩ ?_ ?_
  · rintro i d g hd ⟨k3, k4, rfl⟩
    obtain ⟨e, he, rfl⟩ := enumL_get hd
    obtain ⟨r, hr1, rfl⟩ := rowsL_get he
    refine ⟨_, (dgTup_a rfl).trans rfl, ?_⟩
    walk_at "zs"
    rw [are_different_spec (hr r (List.mem_of_getElem? hr1)) (by omega)]
    walk_at "zs"
    exact step_nx ⟨some _, some _, rfl⟩
  · rintro g ⟨k3, k4, rfl⟩
    walk_at "zs"
    have e := lcL_map (tg := dName 3) (tt := dYes) (te := dN tupleD (aCons (dN sortedD (aCons (dVar 3) aNil)) aNil)) (g := [some (.v (.lst (rowsL hs))), some (.v (.int (n : Int))), k3.map Wd.v, none]) (ds := rowsL hs) (fun d => match d with
      | .lst ds => .tup (iL (srt ((asInts ds).getD [])))
      | d => d) fun d hd => by
      unfold rowsL at hd
      obtain ⟨r, hr1, rfl⟩ := List.mem_map.mp hd
      refine ⟨_, dName_ok rfl, rfl, ?_⟩
      walk_at "zs"
      rw [srt_l]
      walk_at "zs"
      rw [asInts_of]
      rfl
    rw [dLc_eq (ds := rowsL hs) (by cases k3 <;> cases k4 <;> rfl) rfl (by unfold rowsL; rw [List.length_map]; omega) e]
    have e2 : (rowsL hs).map (fun d => match d with
      | .lst ds => D.tup (iL (srt ((asInts ds).getD [])))
      | d => d) = rowsT (hs.map srt) := by
      unfold rowsL rowsT
      rw [List.map_map, List.map_map]
      congr 1
      funext r
      show D.tup (iL (srt ((asInts (iL r)).getD []))) = _
      rw [asInts_of]
      rfl
    rw [e2]
    walk_at "zs"
theorem Pool_init_spec (c : Cs) {caps : List Int} {hs : List (List Int)} (h1 : 1 ≤ caps.length) (h12 : caps.length ≤ 1000) (h0 : ∀ x ∈ caps, 0 ≤ x) (hl : hs.length ≤ 1000) (hr : ∀ h ∈ hs, Hold caps.length h) :
    g_Pool_init c [.lst (iL caps), .lst (rowsL hs)] = some (poolF caps (hs.map srt)) := by
  unfold g_Pool_init t_Pool_init
  obtain ⟨m, hm, hmem⟩ : ∃ m, caps.min? = some m ∧ m ∈ caps := by
    cases e : caps.min? with
    | none => rw [List.min?_eq_none_iff] at e; rw [e] at h1; exact absurd h1 (by decide)
    | some m => exact ⟨m, rfl, List.min?_mem e⟩
  suffices h : ∃ r, t_Pool_init c [some (.o (.ins c.Pool [])), some (.v (.lst (iL caps))), some (.v (.lst (rowsL hs)))] = some (.nx (some (.o (.ins c.Pool (poolF caps (hs.map srt)))) :: r)) by
    obtain ⟨r, h⟩ := h
    exact runI_eq h
  unfold t_Pool_init
  walk_at "zs"
  rw [show (((caps.length : Nat) : Int) == 0) = false from by rw [beq_eq_false_iff_ne]; omega]
  walk_at "zs"
  rw [min_l hm]
  walk_at "zs"
  rw [decide_eq_false (by have := h0 m hmem; omega)]
  walk_at "zs"
  simp only [sFldD_a]
  walk_at "zs"
  rw [fld0 (by decide), put1]
  walk_at "zs"
  simp only [sFldD_a]
  walk_at "zs"
  rw [ordered_spec h12 hl hr]
  walk_at "zs"
  rw [fld1, put2]
  walk_at "zs"
  simp only [sFldD_a]
  walk_at "zs"
  rw [pf2_caps]
  walk_at "zs"
  rw [fld2, put3]
  walk_at "zs"
  simp only [sFldD_a]
  walk_at "zs"
  rw [pf3_holders]
  walk_at "zs"
  rw [fld3, put4]
  have e3 : (rowsT (hs.map srt)).length = (hs.map srt).length := by unfold rowsT; rw [List.length_map]
  rw [e3]
  exact ⟨_, rfl⟩
end Zc
end

section
set_option Elab.async false
set_option linter.all false
set_option maxRecDepth 100000
set_option maxHeartbeats 2000000
/-! Rooms and held pairs. -/
namespace Zc
open PySem L2 Zk
local macro_rules | `(tactic| walk_at "zs") => `(tactic| simp only [dgTup2_a, dgTup3_a, Bool.not_true, Bool.not_false, mul_lz, List.flatten_cons, List.flatten_nil, Int.reduceToNat, add_ll, pow10_12, pow10_18, pow10_39, pow10_41, pow10_59, pow10_60, mkLst_some, mkTup_some, List.length_cons, List.length_nil, Nat.zero_le, Nat.reduceAdd, Nat.reduceLeDiff, call1, callO1, call2, callO2, call3, callO3, call4, callO4, call5, callO5, call6, callO6, ap1_some, ap2_some, apN_some, apC_some, d1_a, d2_a, dN_a, aNil_a, aCons_a, dC_a, dVar_z, dVar_s, tDt_a, apAnd_t, apAnd_f, apOr_t, apOr_f, dAndT_a, dOrT_a, apNot_some, dNotT_a, apAndV_t, apAndV_f, dAndV_a, apOrV_t, apOrV_f, dOrV_a, apIf_t, apIf_f, dIf_a, apCh_t, apCh_f, apChain_some, dChain_a, apSeq_nx, apSeq_rt, apSeq_ct, apSeq_bk, sSeq_a, apIfS_t, apIfS_f, sIf_a, sNext_a, sCont_a, sBreak_a, apRet_some, sRet_a, apRetO_some, sRetO_a, sRetN_a, getO_z, getO_s, apRetV_some, sRetV_a, ltB_z, ltB_s, okSlot_s, apAsg_some, sAsg_a, dName_ok, apG_some, dgCons_a, dgNil_a, apAsgO_some, sAsgO_a, sApp_a, sSetI_a, apFor_some, sFor_a, dItems_a, dRng1_a, dRng2_a, apEn_some, apEn_tup, dEnum_a, sFrz_a, frzs_nil, frzs_cons, frzI_o, frzI_v, frzI_n, frzI_s, frz1_s, frzAll_nil, frzAll_o, frzAll_v, frzAll_n, peekT_a, apPk_int, apPk_bl, apPk_str, apPk_non, peekF_a, dCall_a, toO_o, dCallO_a, dMake_a, Wd_v, Wd_o, dSl_a, apSl_some, oNone_a, oSome_a, apO_some, add_ii, sub_ii, lt_ii, le_ii, gt_ii, ge_ii, eq_ii, ne_ii, neg_i, not_b, bl_b, tru_b, tru_i, tru_l, tru_t, tru_n, len_l, len_t, len_scr, abs_i, int_i, list_l, list_t, tuple_l, tuple_t, min_ii, max_ii, rev_l, items_l, items_t, iL_len, run_a, outW_rt, outW_nx, List.map_cons, List.map_nil, List.replicate, List.append_nil, List.cons_append, List.nil_append, List.set_cons_zero, List.set_cons_succ, Option.map_some])
theorem cut_from {α : Type} (xs : List α) (n : Nat) : cutL xs (some (n : Int)) none = xs.drop n := by
  unfold cutL HT.sIx
  have e : ¬ ((n : Int) < 0) := by omega
  simp only [if_neg e, Int.toNat_natCast]
  by_cases h : n ≤ xs.length
  · rw [Nat.min_eq_left h, List.take_of_length_le (by rw [List.length_drop]; exact Nat.le_refl _)]
  · rw [Nat.min_eq_right (by omega), List.drop_of_length_le (Nat.le_refl _), List.drop_of_length_le (by omega), List.take_nil]
theorem cut_to {α : Type} (xs : List α) (n : Nat) : cutL xs none (some (n : Int)) = xs.take n := by
  unfold cutL HT.sIx
  have e : ¬ ((n : Int) < 0) := by omega
  simp only [if_neg e, Int.toNat_natCast, Nat.sub_zero, List.drop_zero]
  by_cases h : n ≤ xs.length
  · rw [Nat.min_eq_left h]
  · rw [Nat.min_eq_right (by omega), List.take_of_length_le (Nat.le_refl _), List.take_of_length_le (by omega)]
theorem ix_ti {ns : List Int} {m : Nat} {x : Int} (h : ns[m]? = some x) : ixD (.tup (iL ns)) (.int (m : Int)) = some (.int x) := ix_t (by rw [iL_get, h]; rfl)
theorem ix_li {ns : List Int} {m : Nat} {x : Int} (h : ns[m]? = some x) : ixD (.lst (iL ns)) (.int (m : Int)) = some (.int x) := ix_l (by rw [iL_get, h]; rfl)
theorem rowsT_len (hs : List (List Int)) : (rowsT hs).length = hs.length := by unfold rowsT; rw [List.length_map]
theorem rowsL_len (hs : List (List Int)) : (rowsL hs).length = hs.length := by unfold rowsL; rw [List.length_map]
theorem ix_rt {hs : List (List Int)} {m : Nat} {h : List Int} (e : hs[m]? = some h) : ixD (.tup (rowsT hs)) (.int (m : Int)) = some (.tup (iL h)) := ix_t (by unfold rowsT; rw [List.getElem?_map, e]; rfl)
theorem ix_rl {hs : List (List Int)} {m : Nat} {h : List Int} (e : hs[m]? = some h) : ixD (.lst (rowsL hs)) (.int (m : Int)) = some (.lst (iL h)) := ix_l (by unfold rowsL; rw [List.getElem?_map, e]; rfl)
theorem ix_p0 {a b : D} : ixD (.tup [a, b]) (.int 0) = some a := rfl
theorem ix_p1 {a b : D} : ixD (.tup [a, b]) (.int 1) = some b := rfl
def capAt (caps : List Int) (k : Int) : Int := caps[k.toNat]?.getD 0
theorem ix_cap {caps : List Int} {k : Int} (h0 : 0 ≤ k) (h : k < (caps.length : Nat)) : ixD (.tup (iL caps)) (.int k) = some (.int (capAt caps k)) := by
  obtain ⟨m, rfl⟩ := Int.eq_ofNat_of_zero_le h0
  have hm : m < caps.length := by omega
  unfold capAt
  rw [Int.toNat_natCast, List.getElem?_eq_getElem hm]
  exact ix_ti (List.getElem?_eq_getElem hm)
theorem ix_capl {caps : List Int} {k : Int} (h0 : 0 ≤ k) (h : k < (caps.length : Nat)) : ixD (.lst (iL caps)) (.int k) = some (.int (capAt caps k)) := by
  obtain ⟨m, rfl⟩ := Int.eq_ofNat_of_zero_le h0
  have hm : m < caps.length := by omega
  unfold capAt
  rw [Int.toNat_natCast, List.getElem?_eq_getElem hm]
  exact ix_li (List.getElem?_eq_getElem hm)
theorem pair_room_spec (c : Cs) {caps : List Int} {hs : List (List Int)} {a b : Int} (ha : 0 ≤ a ∧ a < (caps.length : Nat)) (hb : 0 ≤ b ∧ b < (caps.length : Nat)) :
    g_pair_room c [poolD c caps hs, .tup [.int a, .int b]] = some (.v (.int (if capAt caps b < capAt caps a then capAt caps b else capAt caps a))) := by
  unfold g_pair_room t_pair_room
  walk_at "zs"
  rw [fld_caps]
  walk_at "zs"
  rw [ix_cap ha.1 ha.2, ix_cap hb.1 hb.2]
  walk_at "zs"
theorem isi_ii {j : Int} : isiD [.int j, .ty "int"] = some (.bl true) := rfl
theorem isi_ib {j : Int} : isiD [.int j, .ty "bool"] = some (.bl false) := rfl
theorem isi_tt {ds : List D} : isiD [.tup ds, .ty "tuple"] = some (.bl true) := rfl
theorem isi_ll {ds : List D} : isiD [.lst ds, .ty "list"] = some (.bl true) := rfl
theorem is_integer_call (j : Int) : (g_law_is_integer [.int j]).map Wd.d = some (.bl true) := rfl
/-! ### held pairs -/
def prs : List Int → List D
  | [] => []
  | a :: r => r.map (pr a) ++ prs r
theorem prs_len : ∀ xs : List Int, (prs xs).length ≤ xs.length * xs.length
  | [] => Nat.le_refl _
  | a :: r => by
    have ih := prs_len r
    unfold prs
    rw [List.length_append, List.length_map, List.length_cons]
    have : (r.length + 1) * (r.length + 1) = r.length * r.length + r.length + r.length + 1 := by rw [Nat.add_mul, Nat.mul_add]; omega
    omega
def posC (caps : List Int) (k : Int) : Bool := decide (0 < capAt caps k)
def heldL (caps h : List Int) : List D := prs (h.filter (posC caps))
theorem dLc2_eq {it it1 : DIF} {tg tg1 : DGF} {tt tt1 : DTF} {te : DF} {vs vs1 : List Nat} {g : Gm} {ds es : List D} (hf : free g vs = true) (hi : it g = some ds) (h : collL (one2 tg tt it1 tg1 tt1 te vs1 (wipeG g vs)) ds = some es) (hl : es.length ≤ 100000) : dLc2 it tg tt it1 tg1 tt1 te vs vs1 g = some (.lst es) := by
  unfold dLc2
  rw [if_pos hf, hi, Option.bind_some, h, Option.bind_some, if_pos hl]
theorem coll_one {tg : DGF} {tt : DTF} {te : DF} {g : Gm} (F : D → D) : ∀ {ds : List D}, (∀ d, d ∈ ds → ∃ g1, tg d g = some g1 ∧ tt g1 = some true ∧ te g1 = some (F d)) → collL (one1 tg tt te g) ds = some (ds.map F)
  | [], _ => rfl
  | d :: ds, h => by
    obtain ⟨g1, h1, h2, h3⟩ := h d List.mem_cons_self
    have ih := coll_one (tg := tg) (tt := tt) (te := te) (g := g) F (ds := ds) fun d hd => h d (List.mem_cons_of_mem _ hd)
    unfold collL
    rw [ih]
    unfold one1
    rw [h1, Option.bind_some, h2, Option.bind_some, if_pos rfl, h3]
    rfl
theorem coll_prs {F : D → Option (List D)} {xs : List Int} (h : ∀ (i : Nat) (x : Int), xs[i]? = some x → F (.tup [.int (i : Int), .int x]) = some ((xs.drop (i + 1)).map (pr x))) : ∀ (r : List Int) (n : Nat), xs.drop n = r → collL F (enumL n (iL r)) = some (prs r)
  | [], _, _ => rfl
  | x :: r, n, e => by
    have e1 : xs[n]? = some x := by
      have := congrArg (fun l : List Int => l[0]?) e
      simpa [List.getElem?_drop] using this
    have e2 : xs.drop (n + 1) = r := by
      have := congrArg (List.drop 1) e
      rw [List.drop_drop] at this
      exact this
    have ih := coll_prs h r (n + 1) e2
    show (F (.tup [.int (n : Int), .int x])).bind _ = _
    rw [h n x e1, e2]
    show (collL F (enumL (n + 1) (iL r))).map _ = _
    rw [ih]
    rfl
theorem filt_iL (h : List Int) (T : D → Bool) (P : Int → Bool) (e : ∀ k, T (.int k) = P k) : (iL h).filter T = iL (h.filter P) := by
  unfold iL
  rw [List.filter_map]
  congr 1
  apply List.filter_congr
  intro k _
  exact e k
theorem pairs_room_spec (c : Cs) {caps : List Int} {hs : List (List Int)} {h : List Int} (ha : Asc caps.length h) (hc : caps.length ≤ 100) :
    g_pairs_with_room c [poolD c caps hs, .tup (iL h)] = some (.o (.lst (heldL caps h))) := by
  unfold g_pairs_with_room t_pairs_with_room
  walk_at "zs"
  have hl := ha.len
  have e := lcL_filter (tg := dName 3) (tt := tDt blD (d2 gtD (d2 ixD (d1 (fldD c.Pool "caps") (dVar 0)) (dVar 3)) (dC (.int 0)))) (te := dVar 3) (g := [some (.v (poolD c caps hs)), some (.v (.tup (iL h))), none, none, none, none, none]) (fun d => match d with
    | .int k => posC caps k
    | _ => false) id (ds := iL h) fun d hd => by
    unfold iL at hd
    obtain ⟨j, hj, rfl⟩ := List.mem_map.mp hd
    have hj' := ha.2 j hj
    refine ⟨_, dName_ok rfl, ?_, fun _ => rfl⟩
    walk_at "zs"
    rw [fld_caps]
    walk_at "zs"
    rw [ix_cap hj'.1 hj'.2]
    walk_at "zs"
    rfl
  rw [filt_iL h _ (posC caps) fun _ => rfl, List.map_id] at e
  rw [dLc_eq (ds := iL h) rfl (by walk_at "zs") (by rw [iL_len]; omega) e]
  walk_at "zs"
  generalize hxs : h.filter (posC caps) = xs
  have hxl : xs.length ≤ h.length := by rw [← hxs]; exact (List.filter_sublist).length_le
  have e2 := coll_prs (xs := xs) (F := one2 (dgTup 2 (dgCons (dName 4) (dgCons (dName 5) dgNil))) dYes (dItems (dSl (dVar 2) (oSome (d2 addD (dVar 4) (dC (.int 1)))) oNone)) (dName 6) dYes (dN mkTup (aCons (dVar 5) (aCons (dVar 6) aNil))) [6] [some (.v (poolD c caps hs)), some (.v (.tup (iL h))), some (.v (.lst (iL xs))), none, none, none, none]) (fun i x hx => by
    unfold one2
    rw [dgTup2_a]
    show (dItems (dSl (dVar 2) (oSome (d2 addD (dVar 4) (dC (.int 1)))) oNone) [some (.v (poolD c caps hs)), some (.v (.tup (iL h))), some (.v (.lst (iL xs))), none, some (.v (.int (i : Int))), some (.v (.int x)), none]).bind _ = _
    walk_at "zs"
    rw [show (i : Int) + 1 = ((i + 1 : Nat) : Int) by omega, cut_from]
    have e3 := coll_one (tg := dName 6) (tt := dYes) (te := dN mkTup (aCons (dVar 5) (aCons (dVar 6) aNil))) (g := [some (.v (poolD c caps hs)), some (.v (.tup (iL h))), some (.v (.lst (iL xs))), none, some (.v (.int (i : Int))), some (.v (.int x)), none]) (fun d => .tup [.int x, d]) (ds := iL (xs.drop (i + 1))) fun d hd => by
      refine ⟨_, dName_ok rfl, rfl, ?_⟩
      walk_at "zs"
    rw [show (iL xs).drop (i + 1) = iL (xs.drop (i + 1)) from by unfold iL; rw [List.map_drop]]
    refine e3.trans ?_
    unfold iL
    rw [List.map_map]
    rfl) xs 0 rfl
  have hpl := prs_len xs
  have hb : xs.length * xs.length ≤ 100 * 100 := Nat.mul_le_mul (by omega) (by omega)
  rw [dLc2_eq (ds := enumL 0 (iL xs)) rfl (by walk_at "zs") e2 (by omega)]
  walk_at "zs"
  unfold heldL
  rw [hxs]
theorem held_pairs_spec (c : Cs) {caps : List Int} {hs : List (List Int)} {h : List Int} {k : Nat} (hk : hs[k]? = some h) (ha : Asc caps.length h) (hc : caps.length ≤ 100) :
    g_held_pairs c [poolD c caps hs, .int (k : Int)] = some (.o (.lst (heldL caps h))) := by
  unfold g_held_pairs t_held_pairs
  walk_at "zs"
  rw [fld_holders]
  walk_at "zs"
  rw [ix_rt hk]
  walk_at "zs"
  rw [pairs_room_spec c ha hc]
  walk_at "zs"
end Zc
end

section
set_option Elab.async false
set_option linter.all false
set_option maxRecDepth 100000
set_option maxHeartbeats 2000000
/-! Is it the pool. -/
namespace Zc
open PySem L2 Zk
local macro_rules | `(tactic| walk_at "zs") => `(tactic| simp only [beq_self_eq_true, isi_ii, isi_ib, isi_tt, isi_ll, rowsT_len, rowsL_len, is_integer_call, fld_caps, fld_holders, fld_seats, fld_pieces, ix_p0, ix_p1, dgTup2_a, dgTup3_a, Bool.not_true, Bool.not_false, mul_lz, List.flatten_cons, List.flatten_nil, Int.reduceToNat, add_ll, pow10_12, pow10_18, pow10_39, pow10_41, pow10_59, pow10_60, mkLst_some, mkTup_some, List.length_cons, List.length_nil, Nat.zero_le, Nat.reduceAdd, Nat.reduceLeDiff, call1, callO1, call2, callO2, call3, callO3, call4, callO4, call5, callO5, call6, callO6, ap1_some, ap2_some, apN_some, apC_some, d1_a, d2_a, dN_a, aNil_a, aCons_a, dC_a, dVar_z, dVar_s, tDt_a, apAnd_t, apAnd_f, apOr_t, apOr_f, dAndT_a, dOrT_a, apNot_some, dNotT_a, apAndV_t, apAndV_f, dAndV_a, apOrV_t, apOrV_f, dOrV_a, apIf_t, apIf_f, dIf_a, apCh_t, apCh_f, apChain_some, dChain_a, apSeq_nx, apSeq_rt, apSeq_ct, apSeq_bk, sSeq_a, apIfS_t, apIfS_f, sIf_a, sNext_a, sCont_a, sBreak_a, apRet_some, sRet_a, apRetO_some, sRetO_a, sRetN_a, getO_z, getO_s, apRetV_some, sRetV_a, ltB_z, ltB_s, okSlot_s, apAsg_some, sAsg_a, dName_ok, apG_some, dgCons_a, dgNil_a, apAsgO_some, sAsgO_a, sApp_a, sSetI_a, apFor_some, sFor_a, dItems_a, dRng1_a, dRng2_a, apEn_some, apEn_tup, dEnum_a, sFrz_a, frzs_nil, frzs_cons, frzI_o, frzI_v, frzI_n, frzI_s, frz1_s, frzAll_nil, frzAll_o, frzAll_v, frzAll_n, peekT_a, apPk_int, apPk_bl, apPk_str, apPk_non, peekF_a, dCall_a, toO_o, dCallO_a, dMake_a, Wd_v, Wd_o, dSl_a, apSl_some, oNone_a, oSome_a, apO_some, add_ii, sub_ii, lt_ii, le_ii, gt_ii, ge_ii, eq_ii, ne_ii, neg_i, not_b, bl_b, tru_b, tru_i, tru_l, tru_t, tru_n, len_l, len_t, len_scr, abs_i, int_i, list_l, list_t, tuple_l, tuple_t, min_ii, max_ii, rev_l, items_l, items_t, iL_len, run_a, outW_rt, outW_nx, List.map_cons, List.map_nil, List.replicate, List.append_nil, List.cons_append, List.nil_append, List.set_cons_zero, List.set_cons_succ, Option.map_some])
theorem is_pool_spec (c : Cs) {caps : List Int} {hs : List (List Int)} (hc : caps.length ≤ 1000) (hp : hs.length ≤ 1000) (ha : ∀ h ∈ hs, h.length ≤ 1000) :
    g_law_is_pool c [poolD c caps hs, .lst (iL caps), .lst (rowsL hs)] = some (.v (.bl true)) := by
  unfold g_law_is_pool t_law_is_pool
  walk_at "zs"
  rw [apR1_some (by omega)]
  walk_at "zs"
  refine rng_then (C := fun o => outW o = _) (fun i g => ∃ k3 k4 k5 : Option Wd, g = [some (.v (poolD c caps hs)), some (.v (.lst (iL caps))), some (.v (.lst (rowsL hs))), k3, k4, k5]) ⟨_, _, _, rfl⟩ ?_ ?_ ?_
  · rintro i g ⟨k3, k4, k5, rfl⟩
    rfl
  · rintro i g hi ⟨k3, k4, k5, rfl⟩
    have e : caps[i]? = some caps[i] := List.getElem?_eq_getElem hi
    walk_at "zs"
    rw [ix_ti e]
    walk_at "zs"
    rw [ix_ti e, ix_li e]
    walk_at "zs"
    exact step_nx ⟨_, _, _, rfl⟩
  · rintro g ⟨k3, k4, k5, rfl⟩
    walk_at "zs"
    rw [apR1_some (by omega)]
    walk_at "zs"
    refine rng_then (C := fun o => outW o = _) (fun i g => ∃ k3 k4 k5 : Option Wd, g = [some (.v (poolD c caps hs)), some (.v (.lst (iL caps))), some (.v (.lst (rowsL hs))), k3, k4, k5]) ⟨_, _, _, rfl⟩ ?_ ?_ ?_
    · rintro i g ⟨k3, k4, k5, rfl⟩
      rfl
    · rintro i g hi ⟨k3, k4, k5, rfl⟩
      have e : hs[i]? = some hs[i] := List.getElem?_eq_getElem hi
      generalize hs[i] = h at e
      have hl := ha h (List.mem_of_getElem? e)
      walk_at "zs"
      rw [ix_rt e]
      walk_at "zs"
      rw [ix_rl e]
      walk_at "zs"
      rw [apR1_some (by omega)]
      walk_at "zs"
      obtain ⟨g', eg, k3', rfl⟩ := rng_by (n := h.length) (k := 3) (s := sIf (dOrT (dNotT (tDt truD (dCall 1 (g_law_is_integer) (aCons (d2 ixD (dVar 5) (dVar 3)) aNil)))) (tDt blD (d2 neD (d2 ixD (dVar 5) (dVar 3)) (d2 ixD (d2 ixD (dVar 2) (dVar 4)) (dVar 3))))) (sRet (dC (.bl false))) sNext)
        (fun j g => ∃ k3 : Option Wd, g = [some (.v (poolD c caps hs)), some (.v (.lst (iL caps))), some (.v (.lst (rowsL hs))), k3, some (.v (.int (i : Int))), some (.v (.tup (iL h)))]) (g := [some (.v (poolD c caps hs)), some (.v (.lst (iL caps))), some (.v (.lst (rowsL hs))), k3, some (.v (.int (i : Int))), some (.v (.tup (iL h)))]) ⟨_, rfl⟩ (by rintro j g ⟨k, rfl⟩; rfl) (by
          rintro j g hj ⟨k, rfl⟩
          have ej : h[j]? = some h[j] := List.getElem?_eq_getElem hj
          walk_at "zs"
          rw [ix_ti ej]
          walk_at "zs"
          rw [ix_ti ej, ix_rl e]
          walk_at "zs"
          rw [ix_li ej]
          walk_at "zs"
          exact step_nx ⟨_, rfl⟩)
      rw [eg]
      exact step_nx ⟨_, _, _, rfl⟩
    · rintro g ⟨k3, k4, k5, rfl⟩
      walk_at "zs"
end Zc
end

section
set_option Elab.async false
set_option linter.all false
set_option maxRecDepth 100000
set_option maxHeartbeats 2000000
/-! Lists of pairs. -/
namespace Zc
open PySem L2 Zk
theorem ne_pp {a b : Int} : neD (.tup [.int a, .int b]) (.tup [.int a, .int b]) = some (.bl false) := by
  unfold neD eqB
  simp [toP, toPs, PyData.eqv, SeqAt.shaped]
  exact ⟨⟨rfl, by simp [PyData.depth, PyData.depthAll]⟩, by simp [PyData.eqvAll, PyData.eqv]⟩
theorem frz_k (k : Option Wd) (g : Gm) : frzAll (k :: g) = k.map Wd.frz :: frzAll g := rfl
theorem two2 : (((2 : Nat) : Int) == (2 : Int)) = true := rfl
theorem prs_mem : ∀ {xs : List Int} {d : D}, d ∈ prs xs → ∃ a b, d = pr a b
  | [], d, h => by cases h
  | x :: r, d, h => by
    unfold prs at h
    rcases List.mem_append.mp h with z | z
    · obtain ⟨b, _, rfl⟩ := List.mem_map.mp z; exact ⟨_, _, rfl⟩
    · exact prs_mem z
def rowH (caps h : List Int) (a : Int) : List D := (h.filter fun b => decide (a < b) && (posC caps a && posC caps b)).map (pr a)
theorem filt_lt {a : Int} {p r : List Int} (hp : ∀ x ∈ p, x ≤ a) (hr : ∀ x ∈ r, a < x) (T : Int → Bool) : ((p ++ r).filter fun b => decide (a < b) && (true && T b)) = r.filter T := by
  rw [List.filter_append]
  have e1 : (p.filter fun b => decide (a < b) && (true && T b)) = [] := List.filter_eq_nil_iff.mpr fun x hx => by
    have := hp x hx
    simp; omega
  rw [e1, List.nil_append]
  apply List.filter_congr
  intro x hx
  rw [decide_eq_true (hr x hx)]
  simp
theorem rowH_all (caps : List Int) : ∀ (r p : List Int), (p ++ r).Pairwise (· < ·) → r.flatMap (rowH caps (p ++ r)) = prs (r.filter (posC caps))
  | [], p, _ => rfl
  | a :: r, p, h => by
    have h' := List.pairwise_append.mp h
    have h2 := List.pairwise_cons.mp h'.2.1
    have e : p ++ a :: r = (p ++ [a]) ++ r := by simp
    have ih := rowH_all caps r (p ++ [a]) (by rw [← e]; exact h)
    rw [← e] at ih
    rw [List.flatMap_cons, ih, List.filter_cons]
    cases hc : posC caps a
    · have e1 : rowH caps (p ++ a :: r) a = [] := by
        unfold rowH
        rw [hc, List.map_eq_nil_iff, List.filter_eq_nil_iff]
        intro x _
        simp
      rw [e1]
      rfl
    · rw [if_pos rfl]
      have e1 : rowH caps (p ++ a :: r) a = (r.filter (posC caps)).map (pr a) := by
        unfold rowH
        rw [hc, e, filt_lt (fun x hx => ?_) h2.1]
        rcases List.mem_append.mp hx with z | z
        · exact Int.le_of_lt (h'.2.2 x z a List.mem_cons_self)
        · rw [List.mem_singleton.mp z]; exact Int.le_refl _
      rw [e1]
      rfl
theorem heldL_eq {caps h : List Int} (hp : h.Pairwise (· < ·)) : h.flatMap (rowH caps h) = heldL caps h := rowH_all caps h [] hp
theorem flat_le {α β : Type} (f : α → List β) (k : Nat) : ∀ (xs : List α), (∀ x ∈ xs, (f x).length ≤ k) → (xs.flatMap f).length ≤ xs.length * k
  | [], _ => Nat.zero_le _
  | x :: xs, h => by
    have ih := flat_le f k xs fun y hy => h y (List.mem_cons_of_mem _ hy)
    have := h x List.mem_cons_self
    rw [List.flatMap_cons, List.length_append, List.length_cons, Nat.add_mul, Nat.one_mul]
    omega
theorem rowH_len (caps h : List Int) (a : Int) : (rowH caps h a).length ≤ h.length := by
  unfold rowH
  rw [List.length_map]
  exact List.length_filter_le _ _
end Zc
end

section
set_option Elab.async false
set_option linter.all false
set_option maxRecDepth 100000
set_option autoImplicit false
set_option maxHeartbeats 2000000
/-! Values laid out as data: ==, in, count. -/
namespace Zk
open PySem L2
structure Enc {α : Type} [DecidableEq α] (f : α → D) (p : α → PyData) (k : Nat) : Prop where
  to : ∀ a, toP (f a) = some (p a)
  eqv : ∀ a b, PyData.eqv (p a) (p b) = decide (a = b)
  lay : ∀ a, (p a).canLay0 = true
  dep : ∀ a, (p a).depth ≤ k
section
variable {α : Type} [DecidableEq α] {f : α → D} {p : α → PyData} {k : Nat}
theorem Enc.tos (e : Enc f p k) : ∀ xs : List α, toPs (xs.map f) = some (xs.map p)
  | [] => rfl
  | x :: xs => by
    show (toP (f x)).bind (fun q => (toPs (xs.map f)).map (q :: ·)) = _
    rw [e.to, e.tos xs]
    rfl
theorem Enc.lays (e : Enc f p k) : ∀ xs : List α, PyData.canLayAll0 (xs.map p) = true
  | [] => rfl
  | x :: xs => by
    show PyData.canLayAll0 (p x :: xs.map p) = true
    unfold PyData.canLayAll0
    rw [e.lay, e.lays xs]
    rfl
theorem Enc.deps (e : Enc f p k) : ∀ xs : List α, PyData.depthAll (xs.map p) ≤ k
  | [] => Nat.zero_le _
  | x :: xs => by
    show PyData.depthAll (p x :: xs.map p) ≤ k
    unfold PyData.depthAll
    exact Nat.max_le.mpr ⟨e.dep x, e.deps xs⟩
theorem Enc.eqvs (e : Enc f p k) : ∀ xs ys : List α, PyData.eqvAll (xs.map p) (ys.map p) = decide (xs = ys)
  | [], [] => by simp [PyData.eqvAll]
  | [], y :: ys => by simp [PyData.eqvAll]
  | x :: xs, [] => by simp [PyData.eqvAll]
  | x :: xs, y :: ys => by
    show PyData.eqvAll (p x :: xs.map p) (p y :: ys.map p) = _
    unfold PyData.eqvAll
    rw [e.eqv, e.eqvs xs ys]
    by_cases h : x = y <;> by_cases h2 : xs = ys <;> simp [h, h2]
theorem Enc.lst (e : Enc f p k) : Enc (fun xs : List α => D.lst (xs.map f)) (fun xs => PyData.list (xs.map p)) (k + 1) where
  to xs := by
    show (toPs (xs.map f)).map PyData.list = _
    rw [e.tos]
    rfl
  eqv xs ys := by
    show PyData.eqv (.list (xs.map p)) (.list (ys.map p)) = _
    unfold PyData.eqv
    exact e.eqvs xs ys
  lay xs := by
    show (PyData.list (xs.map p)).canLay0 = true
    unfold PyData.canLay0
    exact e.lays xs
  dep xs := by
    show (PyData.list (xs.map p)).depth ≤ k + 1
    unfold PyData.depth
    have := e.deps xs
    omega
theorem Enc.tup (e : Enc f p k) : Enc (fun xs : List α => D.tup (xs.map f)) (fun xs => PyData.tuple (xs.map p)) (k + 1) where
  to xs := by
    show (toPs (xs.map f)).map PyData.tuple = _
    rw [e.tos]
    rfl
  eqv xs ys := by
    show PyData.eqv (.tuple (xs.map p)) (.tuple (ys.map p)) = _
    unfold PyData.eqv
    exact e.eqvs xs ys
  lay xs := by
    show (PyData.tuple (xs.map p)).canLay0 = true
    unfold PyData.canLay0
    exact e.lays xs
  dep xs := by
    show (PyData.tuple (xs.map p)).depth ≤ k + 1
    unfold PyData.depth
    have := e.deps xs
    omega
theorem Enc.shaped (e : Enc f p k) (hk : k ≤ 64) (a : α) : SeqAt.shaped (p a) = true := by
  unfold SeqAt.shaped
  rw [e.lay, decide_eq_true (Nat.le_trans (e.dep a) hk)]
  rfl
theorem Enc.small (e : Enc f p k) (hk : k ≤ 60) (a : α) : small (p a) = true := by
  unfold Zk.small
  rw [e.lay, decide_eq_true (Nat.le_trans (e.dep a) hk)]
  rfl
theorem Enc.eqB (e : Enc f p k) (hk : k ≤ 64) (a b : α) : eqB (f a) (f b) = some (decide (a = b)) := by
  unfold Zk.eqB
  rw [e.to, e.to, Option.bind_some, Option.bind_some, e.shaped hk, e.shaped hk, e.eqv]
  rfl
theorem Enc.eqD (e : Enc f p k) (hk : k ≤ 64) (a b : α) : eqD (f a) (f b) = some (.bl (decide (a = b))) := by
  unfold Zk.eqD
  rw [e.eqB hk]
  rfl
theorem Enc.neD (e : Enc f p k) (hk : k ≤ 64) (a b : α) : neD (f a) (f b) = some (.bl (!decide (a = b))) := by
  unfold Zk.neD
  rw [e.eqB hk]
  rfl
theorem Enc.any (e : Enc f p k) (xs : List α) (a : α) : ((xs.map p).any fun z => PyData.eqv z (p a)) = decide (a ∈ xs) := by
  rw [List.any_map]
  have e1 : ((fun z => PyData.eqv z (p a)) ∘ p) = fun b => decide (b = a) := by
    funext b
    exact e.eqv b a
  rw [e1, Bool.eq_iff_iff, List.any_eq_true, decide_eq_true_iff]
  exact ⟨fun ⟨b, h1, h2⟩ => of_decide_eq_true h2 ▸ h1, fun h => ⟨a, h, decide_eq_true rfl⟩⟩
theorem Enc.inL (e : Enc f p k) (hk : k ≤ 60) (a : α) (xs : List α) [di : Decidable (a ∈ xs)] : inPD (f a) (.lst (xs.map f)) = some (.bl (decide (a ∈ xs))) := by
  show ((toP (f a)).bind fun d => (toPs (xs.map f)).bind fun ps => if (Zk.small d && PyData.canLayAll0 ps) = true then some (ps.any fun z => PyData.eqv z d) else none).map D.bl = _
  rw [e.to, e.tos, Option.bind_some, Option.bind_some, e.small hk, e.lays, e.any]
  exact congrArg (fun b => some (D.bl b)) (decide_eq_decide.mpr Iff.rfl)
theorem Enc.ninL (e : Enc f p k) (hk : k ≤ 60) (a : α) (xs : List α) [di : Decidable (a ∈ xs)] : ninPD (f a) (.lst (xs.map f)) = some (.bl (!decide (a ∈ xs))) := by
  show ((toP (f a)).bind fun d => (toPs (xs.map f)).bind fun ps => if (Zk.small d && PyData.canLayAll0 ps) = true then some (ps.any fun z => PyData.eqv z d) else none).map (fun b => D.bl (!b)) = _
  rw [e.to, e.tos, Option.bind_some, Option.bind_some, e.small hk, e.lays, e.any]
  exact congrArg (fun b => some (D.bl (!b))) (decide_eq_decide.mpr Iff.rfl)
theorem Enc.count (e : Enc f p k) (hk : k ≤ 60) (a : α) (xs : List α) [BEq α] [LawfulBEq α] : countD (.lst (xs.map f)) (f a) = some (.int ((xs.count a : Nat) : Int)) := by
  show ((toP (f a)).bind fun d => (toPs (xs.map f)).bind fun ps => if (Zk.small d && PyData.canLayAll0 ps) = true then some (D.int ((ps.countP fun z => PyData.eqv z d : Nat) : Int)) else none) = _
  rw [e.to, e.tos, Option.bind_some, Option.bind_some, e.small hk, e.lays, List.countP_map]
  have e1 : ((fun z => PyData.eqv z (p a)) ∘ p) = fun b => b == a := by
    funext b
    show PyData.eqv (p b) (p a) = _
    rw [e.eqv]
    rw [Bool.eq_iff_iff]; simp
  rw [e1]
  rfl
end
theorem encInt : Enc D.int PyData.int 1 where
  to _ := rfl
  eqv a b := by simp only [PyData.eqv]; rw [Bool.eq_iff_iff]; simp
  lay _ := rfl
  dep _ := by simp [PyData.depth]
/-- a pair of two things -/
theorem Enc.two {α β : Type} [DecidableEq α] [DecidableEq β] {f : α → D} {p : α → PyData} {f' : β → D} {p' : β → PyData} {k : Nat} (e : Enc f p k) (e' : Enc f' p' k) :
    Enc (fun x : α × β => D.tup [f x.1, f' x.2]) (fun x => PyData.tuple [p x.1, p' x.2]) (k + 1) where
  to x := by
    show ((toP (f x.1)).bind fun q => ((toP (f' x.2)).bind fun q' => some [q']).map (q :: ·)).map PyData.tuple = _
    rw [e.to, e'.to]
    rfl
  eqv x y := by
    show PyData.eqv (.tuple [p x.1, p' x.2]) (.tuple [p y.1, p' y.2]) = _
    simp only [PyData.eqv, PyData.eqvAll, e.eqv, e'.eqv]
    obtain ⟨a, b⟩ := x
    obtain ⟨c, d⟩ := y
    by_cases h : a = c <;> by_cases h2 : b = d <;> simp [h, h2]
  lay x := by
    show (PyData.tuple [p x.1, p' x.2]).canLay0 = true
    simp only [PyData.canLay0, PyData.canLayAll0, e.lay, e'.lay]
    rfl
  dep x := by
    show (PyData.tuple [p x.1, p' x.2]).depth ≤ k + 1
    simp only [PyData.depth, PyData.depthAll]
    have h1 := e.dep x.1
    have h2 := e'.dep x.2
    omega
/-- a thing or None -/
def optD {α : Type} (f : α → D) : Option α → D
  | none => .non
  | some a => f a
def optP {α : Type} (p : α → PyData) : Option α → PyData
  | none => .none
  | some a => p a
theorem Enc.opt {α : Type} [DecidableEq α] {f : α → D} {p : α → PyData} {k : Nat} (e : Enc f p k) (h1 : ∀ a, PyData.eqv .none (p a) = false) (h2 : ∀ a, PyData.eqv (p a) .none = false) : Enc (optD f) (optP p) (k + 1) where
  to x := by cases x with | none => rfl | some a => exact e.to a
  eqv x y := by
    cases x with
    | none => cases y with
      | none => simp [optP, PyData.eqv]
      | some b => exact (h1 b).trans (by simp)
    | some a => cases y with
      | none => exact (h2 a).trans (by simp)
      | some b => show PyData.eqv (p a) (p b) = _; rw [e.eqv]; simp
  lay x := by cases x with | none => rfl | some a => exact e.lay a
  dep x := by
    cases x with
    | none => simp [optP, PyData.depth]
    | some a => exact Nat.le_succ_of_le (e.dep a)
theorem Enc.mono {α : Type} [DecidableEq α] {f : α → D} {p : α → PyData} {k : Nat} (e : Enc f p k) {m : Nat} (h : k ≤ m) : Enc f p m := ⟨e.to, e.eqv, e.lay, fun a => Nat.le_trans (e.dep a) h⟩
/-- a comprehension over values laid out -/
theorem lc_filt {α : Type} {tg : DGF} {tt : DTF} {te : DF} {g : Gm} (f : α → D) (T : α → Bool) (F : α → D) : ∀ {xs : List α}, (∀ a, a ∈ xs → ∃ g1, tg (f a) g = some g1 ∧ tt g1 = some (T a) ∧ (T a = true → te g1 = some (F a))) → lcL tg tt te g (xs.map f) = some ((xs.filter T).map F)
  | [], _ => rfl
  | a :: xs, h => by
    obtain ⟨g1, h1, h2, h3⟩ := h a List.mem_cons_self
    have ih := lc_filt (tg := tg) (tt := tt) (te := te) (g := g) f T F (xs := xs) fun d hd => h d (List.mem_cons_of_mem _ hd)
    show lcL tg tt te g (f a :: xs.map f) = _
    unfold lcL
    rw [h1, Option.bind_some, h2, Option.bind_some, ih, List.filter_cons]
    cases ht : T a with
    | true => simp [h3 ht]
    | false => simp
/-- over a range -/
theorem lc_filt_rng {tg : DGF} {tt : DTF} {te : DF} {g : Gm} {n : Nat} (T : Nat → Bool) (F : Nat → D) (h : ∀ i, i < n → ∃ g1, tg (.int (i : Nat)) g = some g1 ∧ tt g1 = some (T i) ∧ (T i = true → te g1 = some (F i))) :
    lcL tg tt te g (rngL 0 n) = some (((List.range n).filter T).map F) := by
  have e : rngL 0 n = (List.range n).map fun i => D.int ((i : Nat) : Int) := by
    unfold rngL
    refine List.map_congr_left fun i _ => ?_
    rw [Int.zero_add]
  rw [e]
  exact lc_filt (fun i : Nat => D.int ((i : Nat) : Int)) T F fun i hi => h i (List.mem_range.mp hi)
end Zk
end

section
set_option Elab.async false
set_option linter.all false
set_option maxRecDepth 100000
set_option autoImplicit false
set_option maxHeartbeats 2000000
/-! Loops that may end early. -/
namespace Zk
open PySem L2
/-- how a turn ends: on, out by return, out by break -/
def Turn (o : Option Out) (J : Gm → Prop) (R : Wd → Prop) (B : Gm → Prop) : Prop := StepTo o J ∨ (∃ w, o = some (.rt w) ∧ R w) ∨ ∃ g, o = some (.bk g) ∧ B g
theorem turn_nx {g : Gm} {J B : Gm → Prop} {R : Wd → Prop} (h : J g) : Turn (some (.nx g)) J R B := .inl (step_nx h)
theorem turn_rt {w : Wd} {J B : Gm → Prop} {R : Wd → Prop} (h : R w) : Turn (some (.rt w)) J R B := .inr (.inl ⟨w, rfl, h⟩)
theorem turn_bk {g : Gm} {J B : Gm → Prop} {R : Wd → Prop} (h : B g) : Turn (some (.bk g)) J R B := .inr (.inr ⟨g, rfl, h⟩)
theorem loop_gen {f : DGF} {s : SF} {R : Wd → Prop} {B : Gm → Prop} : ∀ {ds : List D} (I : Nat → Gm → Prop) {g : Gm}, I 0 g →
    (∀ (i : Nat) (d : D) (g : Gm), ds[i]? = some d → I i g → ∃ g1, f d g = some g1 ∧ Turn (s g1) (I (i + 1)) R B) →
    (∃ g', loopD f s ds g = some (.nx g') ∧ (I ds.length g' ∨ B g')) ∨ ∃ w, loopD f s ds g = some (.rt w) ∧ R w
  | [], I, g, h0, hs => .inl ⟨g, rfl, .inl h0⟩
  | d :: ds, I, g, h0, hs => by
    obtain ⟨g1, h1, h2⟩ := hs 0 d g rfl h0
    rcases h2 with ⟨g2, h2, h3⟩ | ⟨w, h2, h3⟩ | ⟨g2, h2, h3⟩
    · have ih := loop_gen (f := f) (s := s) (R := R) (B := B) (ds := ds) (fun i g => I (i + 1) g) h3 fun i e g he hI => hs (i + 1) e g (by simpa using he) hI
      have e : loopD f s (d :: ds) g = loopD f s ds g2 := by
        rw [show loopD f s (d :: ds) g = (f d g).bind fun g1 => (s g1).bind fun o => match o with
          | .nx g2 => loopD f s ds g2
          | .ct g2 => loopD f s ds g2
          | .bk g2 => some (.nx g2)
          | .rt w => some (.rt w) from rfl, h1, Option.bind_some]
        rcases h2 with h2 | h2 <;> rw [h2] <;> rfl
      rw [e]
      exact ih
    · refine .inr ⟨w, ?_, h3⟩
      unfold loopD
      rw [h1, Option.bind_some, h2]
      rfl
    · refine .inl ⟨g2, ?_, .inr h3⟩
      unfold loopD
      rw [h1, Option.bind_some, h2]
      rfl
/-- the loop, and what follows -/
theorem gen_then {f : DGF} {s q : SF} {ds : List D} {C : Option Out → Prop} (R : Wd → Prop) (B : Gm → Prop) (I : Nat → Gm → Prop) {g : Gm} (h0 : I 0 g)
    (hs : ∀ (i : Nat) (d : D) (g : Gm), ds[i]? = some d → I i g → ∃ g1, f d g = some g1 ∧ Turn (s g1) (I (i + 1)) R B)
    (k : ∀ g', I ds.length g' → C (q g')) (kb : ∀ g', B g' → C (q g')) (kr : ∀ w, R w → C (some (.rt w))) : C (apSeq (loopD f s ds g) q) := by
  rcases loop_gen I h0 hs with ⟨g', e, h | h⟩ | ⟨w, e, h⟩
  · rw [e]; exact k g' h
  · rw [e]; exact kb g' h
  · rw [e]; exact kr w h
/-- over a range -/
theorem gen_rng {s q : SF} {n k : Nat} {C : Option Out → Prop} (R : Wd → Prop) (B : Gm → Prop) (I : Nat → Gm → Prop) {g : Gm} (h0 : I 0 g) (hk : ∀ i g, I i g → okSlot g k = true)
    (hs : ∀ (i : Nat) (g : Gm), i < n → I i g → Turn (s (g.set k (some (.v (.int (i : Int)))))) (I (i + 1)) R B)
    (kk : ∀ g', I n g' → C (q g')) (kb : ∀ g', B g' → C (q g')) (kr : ∀ w, R w → C (some (.rt w))) : C (apSeq (loopD (dName k) s (rngL 0 n) g) q) := by
  refine gen_then R B I h0 (fun i d g hd hI => ?_) (fun g' h => kk g' (by rw [rng_len] at h; exact h)) kb kr
  obtain ⟨hi, rfl⟩ := rng_get hd
  exact ⟨_, dName_ok (hk i g hI), by rw [Int.zero_add]; exact hs i g hi hI⟩
/-- a test in the middle of a turn -/
def Seg (o : Option Out) (M : Gm → Prop) (R : Wd → Prop) (B : Gm → Prop) : Prop := (∃ g, o = some (.nx g) ∧ M g) ∨ (∃ w, o = some (.rt w) ∧ R w) ∨ ∃ g, o = some (.bk g) ∧ B g
theorem seg_nx {g : Gm} {J B : Gm → Prop} {R : Wd → Prop} (h : J g) : Seg (some (.nx g)) J R B := .inl ⟨g, rfl, h⟩
theorem seg_rt {w : Wd} {J B : Gm → Prop} {R : Wd → Prop} (h : R w) : Seg (some (.rt w)) J R B := .inr (.inl ⟨w, rfl, h⟩)
theorem seg_bk {g : Gm} {J B : Gm → Prop} {R : Wd → Prop} (h : B g) : Seg (some (.bk g)) J R B := .inr (.inr ⟨g, rfl, h⟩)
theorem turn_seq {o : Option Out} {q : SF} {J B : Gm → Prop} {R : Wd → Prop} (M : Gm → Prop) (h : Seg o M R B) (k : ∀ g, M g → Turn (q g) J R B) : Turn (apSeq o q) J R B := by
  rcases h with ⟨g, h, hM⟩ | ⟨w, h, hR⟩ | ⟨g, h, hB⟩
  · rw [h]; exact k g hM
  · rw [h]; exact turn_rt hR
  · rw [h]; exact turn_bk hB
/-- a test ahead of what follows, out by return -/
theorem seg_then {o : Option Out} {q : SF} {C : Option Out → Prop} (R : Wd → Prop) (M : Gm → Prop) (h : Seg o M R (fun _ => False)) (k : ∀ g, M g → C (q g)) (kr : ∀ w, R w → C (some (.rt w))) : C (apSeq o q) := by
  rcases h with ⟨g, h, hM⟩ | ⟨w, h, hR⟩ | ⟨g, h, hB⟩
  · rw [h]; exact k g hM
  · rw [h]; exact kr w hR
  · exact hB.elim
end Zk
end

section
set_option Elab.async false
set_option linter.all false
set_option maxRecDepth 100000
set_option maxHeartbeats 2000000
/-! Items that differ, whatever they are. -/
namespace Zc
open PySem L2 Zk
local macro_rules | `(tactic| walk_at "zs") => `(tactic| simp only [beq_self_eq_true, isi_ii, isi_ib, isi_tt, isi_ll, rowsT_len, rowsL_len, is_integer_call, fld_caps, fld_holders, fld_seats, fld_pieces, ix_p0, ix_p1, dgTup2_a, dgTup3_a, Bool.not_true, Bool.not_false, mul_lz, List.flatten_cons, List.flatten_nil, Int.reduceToNat, add_ll, pow10_12, pow10_18, pow10_39, pow10_41, pow10_59, pow10_60, mkLst_some, mkTup_some, List.length_cons, List.length_nil, Nat.zero_le, Nat.reduceAdd, Nat.reduceLeDiff, call1, callO1, call2, callO2, call3, callO3, call4, callO4, call5, callO5, call6, callO6, ap1_some, ap2_some, apN_some, apC_some, d1_a, d2_a, dN_a, aNil_a, aCons_a, dC_a, dVar_z, dVar_s, tDt_a, apAnd_t, apAnd_f, apOr_t, apOr_f, dAndT_a, dOrT_a, apNot_some, dNotT_a, apAndV_t, apAndV_f, dAndV_a, apOrV_t, apOrV_f, dOrV_a, apIf_t, apIf_f, dIf_a, apCh_t, apCh_f, apChain_some, dChain_a, apSeq_nx, apSeq_rt, apSeq_ct, apSeq_bk, sSeq_a, apIfS_t, apIfS_f, sIf_a, sNext_a, sCont_a, sBreak_a, apRet_some, sRet_a, apRetO_some, sRetO_a, sRetN_a, getO_z, getO_s, apRetV_some, sRetV_a, ltB_z, ltB_s, okSlot_s, apAsg_some, sAsg_a, dName_ok, apG_some, dgCons_a, dgNil_a, apAsgO_some, sAsgO_a, sApp_a, sSetI_a, apFor_some, sFor_a, dItems_a, dRng1_a, dRng2_a, apEn_some, apEn_tup, dEnum_a, sFrz_a, frzs_nil, frzs_cons, frzI_o, frzI_v, frzI_n, frzI_s, frz1_s, frzAll_nil, frzAll_o, frzAll_v, frzAll_n, peekT_a, apPk_int, apPk_bl, apPk_str, apPk_non, peekF_a, dCall_a, toO_o, dCallO_a, dMake_a, Wd_v, Wd_o, dSl_a, apSl_some, oNone_a, oSome_a, apO_some, add_ii, sub_ii, lt_ii, le_ii, gt_ii, ge_ii, eq_ii, ne_ii, neg_i, not_b, bl_b, tru_b, tru_i, tru_l, tru_t, tru_n, len_l, len_t, len_scr, abs_i, int_i, list_l, list_t, tuple_l, tuple_t, min_ii, max_ii, rev_l, items_l, items_t, iL_len, run_a, outW_rt, outW_nx, List.map_cons, List.map_nil, List.replicate, List.append_nil, List.cons_append, List.nil_append, List.set_cons_zero, List.set_cons_succ, Option.map_some])
theorem dd_le : ∀ xs : List Int, (dd xs).length ≤ xs.length
  | [] => Nat.le_refl _
  | x :: xs => by
    have := dd_le xs
    unfold dd
    split
    · simp; omega
    · simp; omega
theorem dd_len : ∀ xs : List Int, (dd xs).length = xs.length ↔ xs.Nodup
  | [] => by simp [dd]
  | x :: xs => by
    have ih := dd_len xs
    have hl := dd_le xs
    unfold dd
    rw [List.nodup_cons]
    by_cases h : x ∈ xs
    · rw [if_pos h]
      simp [h]
      omega
    · rw [if_neg h]
      simp [h, ih]
instance {n : Nat} {h : List Int} : Decidable (Hold n h) := by unfold Hold; exact inferInstance
theorem asBls_map {α : Type} (xs : List α) (T : α → Bool) : asBls (xs.map fun x => D.bl (T x)) = some (xs.map T) := by
  induction xs with
  | nil => rfl
  | cons n ns ih => show (asBls (ns.map _)).map (T n :: ·) = _; rw [ih]; rfl
theorem differ_spec (n : Nat) (h : List Int) (hl : h.length ≤ 4000) : g_are_different [.lst (iL h), .int (n : Int)] = some (.v (.bl (decide (Hold n h)))) := by
  unfold g_are_different t_are_different
  walk_at "zs"
  have e := lc_filt (tg := dName 2) (tt := dYes) (te := dChain leD ltD (dC (.int 0)) (dVar 2) (dVar 1)) (g := [some (.v (.lst (iL h))), some (.v (.int (n : Int))), none]) D.int (fun _ => true) (fun k => .bl (decide (0 ≤ k ∧ k < (n : Int)))) (xs := h) fun k hk => by
    refine ⟨_, dName_ok rfl, rfl, fun _ => ?_⟩
    walk_at "zs"
    by_cases h0 : 0 ≤ k
    · rw [decide_eq_true h0]
      walk_at "zs"
      simp [h0]
    · rw [decide_eq_false h0]
      walk_at "zs"
      simp [h0]
  rw [show h.filter (fun _ => true) = h from List.filter_eq_self.mpr fun _ _ => rfl] at e
  rw [dLc_eq (ds := iL h) rfl rfl (by rw [iL_len]; omega) e]
  walk_at "zs"
  have ea : allD [.lst (h.map fun k => D.bl (decide (0 ≤ k ∧ k < (n : Int))))] = some (.bl (decide (∀ k ∈ h, 0 ≤ k ∧ k < (n : Int)))) := by
    show (asBls _).map _ = _
    rw [asBls_map]
    show some (D.bl _) = _
    congr 2
    rw [Bool.eq_iff_iff, List.all_map, List.all_eq_true]
    simp
  rw [ea]
  by_cases hr : ∀ k ∈ h, 0 ≤ k ∧ k < (n : Int)
  · rw [decide_eq_true hr]
    walk_at "zs"
    unfold lenSetD
    rw [items_l, Option.bind_some, asInts_of, Option.bind_some]
    have hd := dd_le h
    rw [if_pos (by omega)]
    walk_at "zs"
    congr 3
    rw [Bool.eq_iff_iff, beq_iff_eq, decide_eq_true_iff]
    unfold Hold
    rw [← dd_len]
    exact ⟨fun z => ⟨by omega, hr⟩, fun z => by have := z.1; omega⟩
  · rw [decide_eq_false hr]
    walk_at "zs"
    congr 3
    exact (decide_eq_false fun z => hr z.2).symm
end Zc
end

section
set_option Elab.async false
set_option linter.all false
set_option maxRecDepth 100000
set_option autoImplicit false
set_option maxHeartbeats 2000000
/-! Total words for items, and steps that leave less to say. -/
namespace Zk
open PySem L2
/-- the item at a place -/
def at_ {α : Type} [Inhabited α] (xs : List α) (k : Int) : α := xs[k.toNat]?.getD default
section
variable {α : Type} [Inhabited α]
theorem at_eq {xs : List α} {k : Int} {m : Nat} {a : α} (e : k = (m : Int)) (h : xs[m]? = some a) : at_ xs k = a := by
  unfold at_
  rw [e, Int.toNat_natCast, h]; rfl
theorem at_get {xs : List α} {k : Int} (h0 : 0 ≤ k) (h : k < (xs.length : Nat)) : xs[k.toNat]? = some (at_ xs k) := by
  have hm : k.toNat < xs.length := by omega
  unfold at_
  rw [List.getElem?_eq_getElem hm]; rfl
theorem at_mem {xs : List α} {k : Int} (h0 : 0 ≤ k) (h : k < (xs.length : Nat)) : at_ xs k ∈ xs := List.mem_of_getElem? (at_get h0 h)
theorem ix_at {f : α → D} {xs : List α} {k : Int} (h0 : 0 ≤ k) (h : k < (xs.length : Nat)) : ixD (.lst (xs.map f)) (.int k) = some (f (at_ xs k)) := by
  have e := ix_l (ds := xs.map f) (m := k.toNat) (d := f (at_ xs k)) (by rw [List.getElem?_map, at_get h0 h]; rfl)
  rw [show ((k.toNat : Nat) : Int) = k by omega] at e
  exact e
theorem ix_atT {f : α → D} {xs : List α} {k : Int} (h0 : 0 ≤ k) (h : k < (xs.length : Nat)) : ixD (.tup (xs.map f)) (.int k) = some (f (at_ xs k)) := by
  have e := ix_t (ds := xs.map f) (m := k.toNat) (d := f (at_ xs k)) (by rw [List.getElem?_map, at_get h0 h]; rfl)
  rw [show ((k.toNat : Nat) : Int) = k by omega] at e
  exact e
end
theorem ix_atI {xs : List Int} {k : Int} (h0 : 0 ≤ k) (h : k < (xs.length : Nat)) : ixD (.lst (iL xs)) (.int k) = some (.int (at_ xs k)) := ix_at h0 h
theorem ix_atIT {xs : List Int} {k : Int} (h0 : 0 ≤ k) (h : k < (xs.length : Nat)) : ixD (.tup (iL xs)) (.int k) = some (.int (at_ xs k)) := ix_atT h0 h
theorem ix_atR {xs : List (List Int)} {k : Int} (h0 : 0 ≤ k) (h : k < (xs.length : Nat)) : ixD (.lst (rowsL xs)) (.int k) = some (.lst (iL (at_ xs k))) := ix_at h0 h
theorem ix_atRT {xs : List (List Int)} {k : Int} (h0 : 0 ≤ k) (h : k < (xs.length : Nat)) : ixD (.tup (rowsT xs)) (.int k) = some (.tup (iL (at_ xs k))) := ix_atT h0 h
theorem ix_lit2 {x0 x1 k : Int} (h0 : 0 ≤ k) (h : k < 2) : ixD (.tup [.int x0, .int x1]) (.int k) = some (.int (at_ [x0, x1] k)) := ix_atIT (xs := [x0, x1]) h0 h
theorem ix_lit3 {x0 x1 x2 k : Int} (h0 : 0 ≤ k) (h : k < 3) : ixD (.tup [.int x0, .int x1, .int x2]) (.int k) = some (.int (at_ [x0, x1, x2] k)) := ix_atIT (xs := [x0, x1, x2]) h0 h
theorem ix_lit4 {x0 x1 x2 x3 k : Int} (h0 : 0 ≤ k) (h : k < 4) : ixD (.tup [.int x0, .int x1, .int x2, .int x3]) (.int k) = some (.int (at_ [x0, x1, x2, x3] k)) := ix_atIT (xs := [x0, x1, x2, x3]) h0 h
theorem ix_lit5 {x0 x1 x2 x3 x4 k : Int} (h0 : 0 ≤ k) (h : k < 5) : ixD (.tup [.int x0, .int x1, .int x2, .int x3, .int x4]) (.int k) = some (.int (at_ [x0, x1, x2, x3, x4] k)) := ix_atIT (xs := [x0, x1, x2, x3, x4]) h0 h
theorem ix_lit6 {x0 x1 x2 x3 x4 x5 k : Int} (h0 : 0 ≤ k) (h : k < 6) : ixD (.tup [.int x0, .int x1, .int x2, .int x3, .int x4, .int x5]) (.int k) = some (.int (at_ [x0, x1, x2, x3, x4, x5] k)) := ix_atIT (xs := [x0, x1, x2, x3, x4, x5]) h0 h
theorem ix_lit7 {x0 x1 x2 x3 x4 x5 x6 k : Int} (h0 : 0 ≤ k) (h : k < 7) : ixD (.tup [.int x0, .int x1, .int x2, .int x3, .int x4, .int x5, .int x6]) (.int k) = some (.int (at_ [x0, x1, x2, x3, x4, x5, x6] k)) := ix_atIT (xs := [x0, x1, x2, x3, x4, x5, x6]) h0 h
theorem ix_lit8 {x0 x1 x2 x3 x4 x5 x6 x7 k : Int} (h0 : 0 ≤ k) (h : k < 8) : ixD (.tup [.int x0, .int x1, .int x2, .int x3, .int x4, .int x5, .int x6, .int x7]) (.int k) = some (.int (at_ [x0, x1, x2, x3, x4, x5, x6, x7] k)) := ix_atIT (xs := [x0, x1, x2, x3, x4, x5, x6, x7]) h0 h
theorem ix_lit9 {x0 x1 x2 x3 x4 x5 x6 x7 x8 k : Int} (h0 : 0 ≤ k) (h : k < 9) : ixD (.tup [.int x0, .int x1, .int x2, .int x3, .int x4, .int x5, .int x6, .int x7, .int x8]) (.int k) = some (.int (at_ [x0, x1, x2, x3, x4, x5, x6, x7, x8] k)) := ix_atIT (xs := [x0, x1, x2, x3, x4, x5, x6, x7, x8]) h0 h
theorem ix_lit10 {x0 x1 x2 x3 x4 x5 x6 x7 x8 x9 k : Int} (h0 : 0 ≤ k) (h : k < 10) : ixD (.tup [.int x0, .int x1, .int x2, .int x3, .int x4, .int x5, .int x6, .int x7, .int x8, .int x9]) (.int k) = some (.int (at_ [x0, x1, x2, x3, x4, x5, x6, x7, x8, x9] k)) := ix_atIT (xs := [x0, x1, x2, x3, x4, x5, x6, x7, x8, x9]) h0 h
theorem ix_lit11 {x0 x1 x2 x3 x4 x5 x6 x7 x8 x9 x10 k : Int} (h0 : 0 ≤ k) (h : k < 11) : ixD (.tup [.int x0, .int x1, .int x2, .int x3, .int x4, .int x5, .int x6, .int x7, .int x8, .int x9, .int x10]) (.int k) = some (.int (at_ [x0, x1, x2, x3, x4, x5, x6, x7, x8, x9, x10] k)) := ix_atIT (xs := [x0, x1, x2, x3, x4, x5, x6, x7, x8, x9, x10]) h0 h
theorem ix_lit12 {x0 x1 x2 x3 x4 x5 x6 x7 x8 x9 x10 x11 k : Int} (h0 : 0 ≤ k) (h : k < 12) : ixD (.tup [.int x0, .int x1, .int x2, .int x3, .int x4, .int x5, .int x6, .int x7, .int x8, .int x9, .int x10, .int x11]) (.int k) = some (.int (at_ [x0, x1, x2, x3, x4, x5, x6, x7, x8, x9, x10, x11] k)) := ix_atIT (xs := [x0, x1, x2, x3, x4, x5, x6, x7, x8, x9, x10, x11]) h0 h
theorem ix_lit13 {x0 x1 x2 x3 x4 x5 x6 x7 x8 x9 x10 x11 x12 k : Int} (h0 : 0 ≤ k) (h : k < 13) : ixD (.tup [.int x0, .int x1, .int x2, .int x3, .int x4, .int x5, .int x6, .int x7, .int x8, .int x9, .int x10, .int x11, .int x12]) (.int k) = some (.int (at_ [x0, x1, x2, x3, x4, x5, x6, x7, x8, x9, x10, x11, x12] k)) := ix_atIT (xs := [x0, x1, x2, x3, x4, x5, x6, x7, x8, x9, x10, x11, x12]) h0 h
theorem ix_lit14 {x0 x1 x2 x3 x4 x5 x6 x7 x8 x9 x10 x11 x12 x13 k : Int} (h0 : 0 ≤ k) (h : k < 14) : ixD (.tup [.int x0, .int x1, .int x2, .int x3, .int x4, .int x5, .int x6, .int x7, .int x8, .int x9, .int x10, .int x11, .int x12, .int x13]) (.int k) = some (.int (at_ [x0, x1, x2, x3, x4, x5, x6, x7, x8, x9, x10, x11, x12, x13] k)) := ix_atIT (xs := [x0, x1, x2, x3, x4, x5, x6, x7, x8, x9, x10, x11, x12, x13]) h0 h
theorem ix_lit15 {x0 x1 x2 x3 x4 x5 x6 x7 x8 x9 x10 x11 x12 x13 x14 k : Int} (h0 : 0 ≤ k) (h : k < 15) : ixD (.tup [.int x0, .int x1, .int x2, .int x3, .int x4, .int x5, .int x6, .int x7, .int x8, .int x9, .int x10, .int x11, .int x12, .int x13, .int x14]) (.int k) = some (.int (at_ [x0, x1, x2, x3, x4, x5, x6, x7, x8, x9, x10, x11, x12, x13, x14] k)) := ix_atIT (xs := [x0, x1, x2, x3, x4, x5, x6, x7, x8, x9, x10, x11, x12, x13, x14]) h0 h
theorem Below.at {ds sizes : List Int} (h : Below ds sizes) {k : Int} (s : Int) (h0 : 0 ≤ k) (h1 : sizes[k.toNat]? = some s) : 0 ≤ at_ ds k ∧ at_ ds k < s := by
  obtain ⟨d, e, h2⟩ := h.get h1
  rw [show at_ ds k = d from at_eq (m := k.toNat) (by omega) e]
  exact h2
theorem Below.len {ds sizes : List Int} (h : Below ds sizes) : ds.length = sizes.length := h.1
theorem apR1_any {k : Int} (h : k ≤ 1000000 ∧ -1000000 ≤ k) : apR1 (some [.int k]) = some (rngL 0 k.toNat) := if_pos h
/-! ### steps -/
section
variable {s u q : SF} {g : Gm} {C : Option Out → Prop}
theorem if_cut {b : Bool} (ht : b = true → C (apSeq (s g) q)) (hf : b = false → C (apSeq (u g) q)) : C (apSeq (apIfS (some b) s u g) q) := by
  cases b with
  | true => exact ht rfl
  | false => exact hf rfl
theorem if_end {b : Bool} (ht : b = true → C (s g)) (hf : b = false → C (u g)) : C (apIfS (some b) s u g) := by
  cases b with
  | true => exact ht rfl
  | false => exact hf rfl
theorem set_same {i : Nat} {o : Option Wd} (h : g[i]? = some o) : g.set i o = g := by
  apply List.ext_getElem?
  intro j
  rw [List.getElem?_set]
  split
  · rename_i e
    subst e
    rw [h, if_pos (List.getElem?_eq_some_iff.mp h).1]
  · rfl
/-- a test that may set a name anew -/
theorem if_set (i : Nat) (P : D → Prop) {b : Bool} (h0 : b = false → ∃ d, g[i]? = some (some (.v d)) ∧ P d) (ht : b = true → ∃ d, s g = some (.nx (g.set i (some (.v d)))) ∧ P d)
    (k : ∀ d, P d → C (q (g.set i (some (.v d))))) : C (apSeq (apIfS (some b) s sNext g) q) := by
  cases b with
  | true =>
    obtain ⟨d, e, h⟩ := ht rfl
    show C (apSeq (s g) q)
    rw [e]
    exact k d h
  | false =>
    obtain ⟨d, e, h⟩ := h0 rfl
    have := k d h
    rw [set_same e] at this
    exact this
theorem if_seg (J : Gm → Prop) {b : Bool} (hf : b = false → J g) (ht : b = true → (∃ g', s g = some (.nx g') ∧ J g') ∨ ∃ w, s g = some (.rt w) ∧ C (some (.rt w))) (k : ∀ g', J g' → C (q g')) : C (apSeq (apIfS (some b) s sNext g) q) := by
  cases b with
  | true =>
    show C (apSeq (s g) q)
    rcases ht rfl with ⟨g', e, h⟩ | ⟨w, e, h⟩
    · rw [e]; exact k g' h
    · rw [e]; exact h
  | false => exact k g (hf rfl)
/-- loops at the end of a turn -/
theorem step_loop {f : DGF} {ds : List D} {J : Gm → Prop} (I : Nat → Gm → Prop) (h0 : I 0 g) (hs : ∀ (i : Nat) (d : D) (g : Gm), ds[i]? = some d → I i g → ∃ g1, f d g = some g1 ∧ StepTo (s g1) (I (i + 1)))
    (k : ∀ g', I ds.length g' → J g') : StepTo (loopD f s ds g) J := by
  obtain ⟨g', e, h⟩ := loop_by I h0 hs
  rw [e]
  exact step_nx (k g' h)
theorem step_rng {n j : Nat} {J : Gm → Prop} (I : Nat → Gm → Prop) (h0 : I 0 g) (hk : ∀ i g, I i g → okSlot g j = true) (hs : ∀ (i : Nat) (g : Gm), i < n → I i g → StepTo (s (g.set j (some (.v (.int (i : Int)))))) (I (i + 1)))
    (k : ∀ g', I n g' → J g') : StepTo (loopD (dName j) s (rngL 0 n) g) J := by
  obtain ⟨g', e, h⟩ := rng_by I h0 hk hs
  rw [e]
  exact step_nx (k g' h)
/-- a loop over things laid out -/
theorem loop_each {α : Type} {f : DGF} (enc : α → D) (xs : List α) (I : Nat → Gm → Prop) (h0 : I 0 g) (hs : ∀ (i : Nat) (a : α) (g : Gm), xs[i]? = some a → I i g → ∃ g1, f (enc a) g = some g1 ∧ StepTo (s g1) (I (i + 1)))
    (k : ∀ g', I xs.length g' → C (q g')) : C (apSeq (loopD f s (xs.map enc) g) q) :=
  loop_then I h0 (fun i d g hd hI => by
    rw [List.getElem?_map] at hd
    cases e : xs[i]? with
    | none => rw [e] at hd; cases hd
    | some a => rw [e] at hd; cases hd; exact hs i a g e hI) fun g' h => k g' (by rw [List.length_map] at h; exact h)
theorem step_each {α : Type} {f : DGF} {J : Gm → Prop} (enc : α → D) (xs : List α) (I : Nat → Gm → Prop) (h0 : I 0 g) (hs : ∀ (i : Nat) (a : α) (g : Gm), xs[i]? = some a → I i g → ∃ g1, f (enc a) g = some g1 ∧ StepTo (s g1) (I (i + 1)))
    (k : ∀ g', I xs.length g' → J g') : StepTo (loopD f s (xs.map enc) g) J :=
  step_loop I h0 (fun i d g hd hI => by
    rw [List.getElem?_map] at hd
    cases e : xs[i]? with
    | none => rw [e] at hd; cases hd
    | some a => rw [e] at hd; cases hd; exact hs i a g e hI) fun g' h => k g' (by rw [List.length_map] at h; exact h)
end
/-! ### comprehensions -/
section
variable {it : DIF} {tg : DGF} {tt : DTF} {te : DF} {vs : List Nat} {g : Gm}
theorem dLc_filt {α : Type} (f : α → D) {xs : List α} {T : α → Bool} {F : α → D} (hf : free g vs = true) (hi : it g = some (xs.map f)) (hl : xs.length ≤ 100000)
    (h : ∀ a, a ∈ xs → ∃ g1, tg (f a) (wipeG g vs) = some g1 ∧ tt g1 = some (T a) ∧ (T a = true → te g1 = some (F a))) : dLc it tg tt te vs g = some (.lst ((xs.filter T).map F)) :=
  dLc_eq hf hi (by rw [List.length_map]; exact hl) (lc_filt f T F h)
theorem dLc_map {α : Type} (f : α → D) {xs : List α} {F : α → D} (hf : free g vs = true) (hi : it g = some (xs.map f)) (hl : xs.length ≤ 100000)
    (h : ∀ a, a ∈ xs → ∃ g1, tg (f a) (wipeG g vs) = some g1 ∧ te g1 = some (F a)) : dLc it tg dYes te vs g = some (.lst (xs.map F)) := by
  have e := dLc_filt (tt := dYes) f (T := fun _ => true) (F := F) hf hi hl (fun a ha => by obtain ⟨g1, h1, h2⟩ := h a ha; exact ⟨g1, h1, rfl, fun _ => h2⟩)
  rw [List.filter_eq_self.mpr fun _ _ => rfl] at e
  exact e
theorem rngL_map (n : Nat) : rngL 0 n = (List.range n).map fun i => D.int ((i : Nat) : Int) := by
  unfold rngL
  refine List.map_congr_left fun i _ => ?_
  rw [Int.zero_add]
theorem dLc_rng {n : Nat} {T : Nat → Bool} {F : Nat → D} (hf : free g vs = true) (hi : it g = some (rngL 0 n)) (hl : n ≤ 100000)
    (h : ∀ i, i < n → ∃ g1, tg (.int ((i : Nat) : Int)) (wipeG g vs) = some g1 ∧ tt g1 = some (T i) ∧ (T i = true → te g1 = some (F i))) : dLc it tg tt te vs g = some (.lst (((List.range n).filter T).map F)) :=
  dLc_filt (fun i : Nat => D.int ((i : Nat) : Int)) hf (by rw [hi, rngL_map]) (by rw [List.length_range]; exact hl) fun i hi => h i (List.mem_range.mp hi)
theorem dLc_rngM {n : Nat} {F : Nat → D} (hf : free g vs = true) (hi : it g = some (rngL 0 n)) (hl : n ≤ 100000)
    (h : ∀ i, i < n → ∃ g1, tg (.int ((i : Nat) : Int)) (wipeG g vs) = some g1 ∧ te g1 = some (F i)) : dLc it tg dYes te vs g = some (.lst ((List.range n).map F)) :=
  dLc_map (fun i : Nat => D.int ((i : Nat) : Int)) hf (by rw [hi, rngL_map]) (by rw [List.length_range]; exact hl) fun i hi => h i (List.mem_range.mp hi)
end
theorem frz_wo {d : D} : (Wd.o d).frz = .v d := rfl
theorem frz_wv {d : D} : (Wd.v d).frz = .v d := rfl
theorem frz_kk {k : Option Wd} {g : Gm} : frzAll (k :: g) = k.map Wd.frz :: frzAll g := rfl
theorem wipeG_nil {g : Gm} : wipeG g [] = g := rfl
theorem wipeG_cons {g : Gm} {v : Nat} {vs : List Nat} : wipeG g (v :: vs) = (wipeG g vs).set v none := rfl
theorem fold_iL {xs : List Int} : (xs.map fun a => D.int a) = iL xs := rfl
theorem map_int {α : Type} (xs : List α) (f : α → Int) : (xs.map fun a => D.int (f a)) = iL (xs.map f) := by unfold iL; rw [List.map_map]; rfl
/-- ints of a range, some of them -/
def pickI (n : Nat) (T : Nat → Bool) : List Int := ((List.range n).filter T).map fun i => ((i : Nat) : Int)
theorem pickI_iL {n : Nat} {T : Nat → Bool} : (((List.range n).filter T).map fun i => D.int ((i : Nat) : Int)) = iL (pickI n T) := by unfold pickI; rw [map_int]
theorem pickI_asc (n : Nat) (T : Nat → Bool) : Asc n (pickI n T) := by
  refine Asc.sub ?_
  unfold pickI rngI
  have : (List.range n).map (fun i => (0 : Int) + ((i : Nat) : Int)) = (List.range n).map fun i => ((i : Nat) : Int) := List.map_congr_left fun i _ => by rw [Int.zero_add]
  rw [this]
  exact List.Sublist.map _ (List.filter_sublist)
theorem pickI_mem {n : Nat} {T : Nat → Bool} {k : Int} : k ∈ pickI n T ↔ ∃ i : Nat, k = (i : Int) ∧ i < n ∧ T i = true := by
  unfold pickI
  rw [List.mem_map]
  constructor
  · rintro ⟨i, hi, rfl⟩
    rw [List.mem_filter, List.mem_range] at hi
    exact ⟨i, rfl, hi.1, hi.2⟩
  · rintro ⟨i, rfl, h1, h2⟩
    exact ⟨i, List.mem_filter.mpr ⟨List.mem_range.mpr h1, h2⟩, rfl⟩
/-! ### and, or, chains without cases -/
def orB (k : Bool) (o : Option Bool) : Option Bool := if k then some true else o
def andB (k : Bool) (o : Option Bool) : Option Bool := if k then o else some false
def orV (k : Bool) (o : Option D) : Option D := if k then some (.bl true) else o
def andV (k : Bool) (o : Option D) : Option D := if k then o else some (.bl false)
theorem orB_s {k k' : Bool} : orB k (some k') = some (k || k') := by cases k <;> rfl
theorem orB_t {o : Option Bool} : orB true o = some true := rfl
theorem orB_f {o : Option Bool} : orB false o = o := rfl
theorem andB_s {k k' : Bool} : andB k (some k') = some (k && k') := by cases k <;> rfl
theorem andB_t {o : Option Bool} : andB true o = o := rfl
theorem andB_f {o : Option Bool} : andB false o = some false := rfl
theorem orV_s {k k' : Bool} : orV k (some (.bl k')) = some (.bl (k || k')) := by cases k <;> rfl
theorem orV_t {o : Option D} : orV true o = some (.bl true) := rfl
theorem orV_f {o : Option D} : orV false o = o := rfl
theorem andV_s {k k' : Bool} : andV k (some (.bl k')) = some (.bl (k && k')) := by cases k <;> rfl
theorem andV_t {o : Option D} : andV true o = o := rfl
theorem andV_f {o : Option D} : andV false o = some (.bl false) := rfl
theorem apOr_b {k : Bool} {u : DTF} {g : Gm} : apOr (some k) u g = orB k (u g) := by cases k <;> rfl
theorem apAnd_b {k : Bool} {u : DTF} {g : Gm} : apAnd (some k) u g = andB k (u g) := by cases k <;> rfl
theorem apOrV_b {k : Bool} {u : DF} {g : Gm} : apOrV (some (.bl k)) u g = orV k (u g) := by cases k <;> rfl
theorem apAndV_b {k : Bool} {u : DF} {g : Gm} : apAndV (some (.bl k)) u g = andV k (u g) := by cases k <;> rfl
theorem apCh_b {k : Bool} {f' : D → D → Option D} {y : D} {c : DF} {g : Gm} : apCh f' y c g (some (.bl k)) = andV k (ap2 f' (some y) (c g)) := by cases k <;> rfl
def apPkO : Option D → Option D := fun x => match x with
  | some (.lst ds) => if ds.all D.flat then some (.lst ds) else none
  | _ => none
theorem peekO_a {a : DF} {g : Gm} : peekO a g = apPkO (a (frzAll g)) := rfl
theorem apPkO_i {xs : List Int} : apPkO (some (.lst (iL xs))) = some (.lst (iL xs)) := by
  unfold apPkO iL
  exact if_pos (by rw [List.all_map]; exact List.all_eq_true.mpr fun _ _ => rfl)
end Zk
end

section
set_option Elab.async false
set_option linter.all false
set_option maxRecDepth 100000
set_option maxHeartbeats 2000000
/-! The laws' own functions on pairs: rooms, counts, held pairs, dealings. -/
namespace Zc
open PySem L2 Zk
def t_law_room : SF :=
 (sRet (dN minD (aCons (d2 ixD (dVar 0) (d2 ixD (dVar 1) (dC (.int 0)))) (aCons (d2 ixD (dVar 0) (d2 ixD (dVar 1) (dC (.int 1)))) aNil))))
def g_law_room : PF := runG 0 (t_law_room)
def t_law_worn : SF :=
 (sRet (dN lenD (aCons (dLc (dItems (dVar 0)) (dName 2) (tDt blD (d2 eqD (dVar 2) (dVar 1))) (dVar 2) [2]) aNil)))
def g_law_worn : PF := runG 1 (t_law_worn)
def t_law_held : SF :=
 (sSeq (sAsgO (dN mkLst aNil) 2)
 (sSeq (sFor (dRng1 (aCons (dN lenD (aCons (dVar 1) aNil)) aNil)) (dName 3)
 (sFor (dItems (dSl (dVar 1) (oSome (d2 addD (dVar 3) (dC (.int 1)))) oNone)) (dName 4)
 (sIf (tDt blD (d2 gtD (dN minD (aCons (d2 ixD (dVar 0) (d2 ixD (dVar 1) (dVar 3))) (aCons (d2 ixD (dVar 0) (dVar 4)) aNil))) (dC (.int 0))))
 (sApp 2 (dN mkTup (aCons (d2 ixD (dVar 1) (dVar 3)) (aCons (dVar 4) aNil))))
 sNext)))
 (sRetV 2)))
def g_law_held : PF := runG 3 (t_law_held)
def t_law_is_dealing : SF :=
 (sSeq (sIf (dOrT (dNotT (tDt truD (dN isiD (aCons (dVar 2) (aCons (dC (.ty "list")) aNil))))) (tDt blD (d2 neD (dN lenD (aCons (dVar 2) aNil)) (dN lenD (aCons (dVar 1) aNil)))))
 (sRet (dC (.bl false)))
 sNext)
 (sSeq (sFor (dRng1 (aCons (dN lenD (aCons (dVar 1) aNil)) aNil)) (dName 3)
 (sSeq (sAsg (d2 ixD (dVar 2) (dVar 3)) (dName 4))
 (sIf (tDt blD (d2 isntD (dVar 4) (dC .non)))
 (sSeq (sIf (dOrT (dNotT (tDt truD (dN isiD (aCons (dVar 4) (aCons (dC (.ty "tuple")) aNil))))) (tDt blD (d2 neD (dN lenD (aCons (dVar 4) aNil)) (dC (.int 2)))))
 (sRet (dC (.bl false)))
 sNext)
 (sSeq (sIf (dOrT (dNotT (tDt truD (dCall 1 (g_law_is_integer) (aCons (d2 ixD (dVar 4) (dC (.int 0))) aNil)))) (dNotT (tDt truD (dCall 1 (g_law_is_integer) (aCons (d2 ixD (dVar 4) (dC (.int 1))) aNil)))))
 (sRet (dC (.bl false)))
 sNext)
 (sIf (dOrT (dNotT (tDt blD (d2 ltD (d2 ixD (dVar 4) (dC (.int 0))) (d2 ixD (dVar 4) (dC (.int 1)))))) (dOrT (tDt blD (d2 ninD (d2 ixD (dVar 4) (dC (.int 0))) (d2 ixD (dVar 1) (dVar 3)))) (tDt blD (d2 ninD (d2 ixD (dVar 4) (dC (.int 1))) (d2 ixD (dVar 1) (dVar 3))))))
 (sRet (dC (.bl false)))
 sNext)))
 sNext)))
 (sSeq (sFor (dItems (dCall 1 (g_law_pairs) (aCons (dN lenD (aCons (dVar 0) aNil)) aNil))) (dName 4)
 (sIf (tDt blD (d2 gtD (dN lenD (aCons (dLc (dItems (dVar 2)) (dName 5) (tDt blD (d2 eqD (dVar 5) (dVar 4))) (dVar 5) [5]) aNil)) (dN minD (aCons (d2 ixD (dVar 0) (d2 ixD (dVar 4) (dC (.int 0)))) (aCons (d2 ixD (dVar 0) (d2 ixD (dVar 4) (dC (.int 1)))) aNil)))))
 (sRet (dC (.bl false)))
 sNext))
 (sRet (dC (.bl true))))))
def g_law_is_dealing : PF := runG 3 (t_law_is_dealing)
abbrev Pr := Int × Int
def prD (x : Pr) : D := .tup [.int x.1, .int x.2]
abbrev opD : Option Pr → D := optD prD
def stD (s : Int × Pr) : D := .tup [.int s.1, prD s.2]
def prP (x : Pr) : PyData := .tuple [.int x.1, .int x.2]
abbrev opP : Option Pr → PyData := optP prP
theorem encPr : Enc prD prP 2 := encInt.two encInt
theorem encOp : Enc opD opP 3 := encPr.opt (fun a => by simp [prP, PyData.eqv]) (fun a => by simp [prP, PyData.eqv])
theorem encSt : Enc stD (fun s => .tuple [.int s.1, prP s.2]) 3 := (encInt.mono (by decide)).two encPr
theorem prD_some (q : Pr) : prD q = opD (some q) := rfl
theorem eq_op_op (a b : Option Pr) : eqD (opD a) (opD b) = some (.bl (decide (a = b))) := encOp.eqD (by decide) a b
theorem eq_op_pr (a : Option Pr) (q : Pr) : eqD (opD a) (prD q) = some (.bl (decide (a = some q))) := encOp.eqD (by decide) a (some q)
theorem eq_pr_op (a : Option Pr) (q : Pr) : eqD (prD q) (opD a) = some (.bl (decide (some q = a))) := encOp.eqD (by decide) (some q) a
theorem eq_pr_pr (p q : Pr) : eqD (prD p) (prD q) = some (.bl (decide (p = q))) := encPr.eqD (by decide) p q
theorem ne_op_op (a b : Option Pr) : neD (opD a) (opD b) = some (.bl (!decide (a = b))) := encOp.neD (by decide) a b
theorem ne_op_pr (a : Option Pr) (q : Pr) : neD (opD a) (prD q) = some (.bl (!decide (a = some q))) := encOp.neD (by decide) a (some q)
theorem ne_pr_op (a : Option Pr) (q : Pr) : neD (prD q) (opD a) = some (.bl (!decide (some q = a))) := encOp.neD (by decide) (some q) a
theorem ne_pr_pr (p q : Pr) : neD (prD p) (prD q) = some (.bl (!decide (p = q))) := encPr.neD (by decide) p q
theorem isnt_op (o : Option Pr) : isntD (opD o) .non = some (.bl (!decide (o = none))) := by cases o <;> rfl
theorem is_op (o : Option Pr) : isD (opD o) .non = some (.bl (decide (o = none))) := by cases o <;> rfl
theorem prD_eq (a b : Int) : D.tup [.int a, .int b] = prD (a, b) := rfl
theorem pr_0 (q : Pr) : ixD (prD q) (.int 0) = some (.int q.1) := rfl
theorem pr_1 (q : Pr) : ixD (prD q) (.int 1) = some (.int q.2) := rfl
theorem st_0 (s : Int × Pr) : ixD (stD s) (.int 0) = some (.int s.1) := rfl
theorem st_1 (s : Int × Pr) : ixD (stD s) (.int 1) = some (prD s.2) := rfl
theorem inP_pr (q : Pr) (xs : List Pr) : inPD (prD q) (.lst (xs.map prD)) = some (.bl (decide (q ∈ xs))) := encPr.inL (by decide) q xs
theorem ninP_pr (q : Pr) (xs : List Pr) : ninPD (prD q) (.lst (xs.map prD)) = some (.bl (!decide (q ∈ xs))) := encPr.ninL (by decide) q xs
theorem nin_l {ns : List Int} {k : Int} : ninD (.int k) (.lst (iL ns)) = some (.bl (!ns.contains k)) := by
  show (if ((D.int k).flat4 && (iL ns).all D.flat4) = true then some ((iL ns).any fun z => eqF z (.int k)) else none).map (fun b => D.bl (!b)) = _
  rw [flat4_iL, any_iL]
  rfl
theorem isi_prt (q : Pr) : isiD [prD q, .ty "tuple"] = some (.bl true) := rfl
theorem len_pr (q : Pr) : lenD [prD q] = some (.int 2) := rfl
theorem op_some (q : Pr) : opD (some q) = prD q := rfl
theorem op_none : opD none = .non := rfl
local macro_rules | `(tactic| walk_at "zs") => `(tactic| simp only [beq_self_eq_true, Bool.or_false, Bool.false_or, Bool.true_or, Bool.or_true, Bool.and_false, Bool.false_and, Bool.true_and, Bool.and_true, Zc.isi_ii, Zc.isi_ib, Zc.isi_tt, Zc.isi_ll, Zc.rowsT_len, Zc.rowsL_len, Zc.is_integer_call, Zc.ix_p0, Zc.ix_p1, dgTup2_a, dgTup3_a, Bool.not_true, Bool.not_false, mul_lz, List.flatten_cons, List.flatten_nil, Int.reduceToNat, add_ll, pow10_12, pow10_18, pow10_39, pow10_41, pow10_59, pow10_60, mkLst_some, mkTup_some, List.length_cons, List.length_nil, Nat.zero_le, Nat.reduceAdd, Nat.reduceLeDiff, call1, callO1, call2, callO2, call3, callO3, call4, callO4, call5, callO5, call6, callO6, ap1_some, ap2_some, apN_some, apC_some, d1_a, d2_a, dN_a, aNil_a, aCons_a, dC_a, dVar_z, dVar_s, tDt_a, apAnd_t, apAnd_f, apOr_t, apOr_f, dAndT_a, dOrT_a, apNot_some, dNotT_a, apAndV_t, apAndV_f, dAndV_a, apOrV_t, apOrV_f, dOrV_a, apIf_t, apIf_f, dIf_a, apCh_t, apCh_f, apChain_some, dChain_a, apSeq_nx, apSeq_rt, apSeq_ct, apSeq_bk, sSeq_a, apIfS_t, apIfS_f, sIf_a, sNext_a, sCont_a, sBreak_a, apRet_some, sRet_a, apRetO_some, sRetO_a, sRetN_a, getO_z, getO_s, apRetV_some, sRetV_a, ltB_z, ltB_s, okSlot_s, apAsg_some, sAsg_a, dName_ok, apG_some, dgCons_a, dgNil_a, apAsgO_some, sAsgO_a, sApp_a, sSetI_a, apFor_some, sFor_a, dItems_a, dRng1_a, dRng2_a, apEn_some, apEn_tup, dEnum_a, sFrz_a, frzs_nil, frzs_cons, frzI_o, frzI_v, frzI_n, frzI_s, frz1_s, frzAll_nil, frzAll_o, frzAll_v, frzAll_n, peekT_a, apPk_int, apPk_bl, apPk_str, apPk_non, peekF_a, dCall_a, toO_o, dCallO_a, dMake_a, Wd_v, Wd_o, dSl_a, apSl_some, oNone_a, oSome_a, apO_some, add_ii, sub_ii, lt_ii, le_ii, gt_ii, ge_ii, eq_ii, ne_ii, neg_i, not_b, bl_b, tru_b, tru_i, tru_l, tru_t, tru_n, len_l, len_t, len_scr, abs_i, int_i, list_l, list_t, tuple_l, tuple_t, min_ii, max_ii, rev_l, items_l, items_t, iL_len, run_a, outW_rt, outW_nx, List.map_cons, List.map_nil, List.replicate, List.append_nil, List.cons_append, List.nil_append, List.set_cons_zero, List.set_cons_succ, Option.map_some])
local macro_rules | `(tactic| walk_at "zd") => `(tactic| first | ((with_reducible show okSlot _ _ = true); simp only [okSlot_s, ltB_z, ltB_s]; done) | omega | assumption | decide | (simp only [List.length_map, List.length_append, List.length_cons, List.length_nil, List.length_range, List.length_set, List.length_reverse, iL_len, Zc.rowsT_len, Zc.rowsL_len] at *; omega))
local macro_rules | `(tactic| walk_at "zz") => `(tactic| simp (disch := walk_at "zd") only [dgTup2_a, dgTup3_a, Bool.not_true, Bool.not_false, mul_lz, List.flatten_cons, List.flatten_nil, Int.reduceToNat, add_ll, pow10_12, pow10_18, pow10_39, pow10_41, pow10_59, pow10_60, mkLst_some, mkTup_some, List.length_cons, List.length_nil, Nat.zero_le, Nat.reduceAdd, Nat.reduceLeDiff, call1, callO1, call2, callO2, call3, callO3, call4, callO4, call5, callO5, call6, callO6, ap1_some, ap2_some, apN_some, apC_some, d1_a, d2_a, dN_a, aNil_a, aCons_a, dC_a, dVar_z, dVar_s, tDt_a, apAnd_t, apAnd_f, apOr_t, apOr_f, dAndT_a, dOrT_a, apNot_some, dNotT_a, apAndV_t, apAndV_f, dAndV_a, apOrV_t, apOrV_f, dOrV_a, apIf_t, apIf_f, dIf_a, apCh_t, apCh_f, apChain_some, dChain_a, apSeq_nx, apSeq_rt, apSeq_ct, apSeq_bk, sSeq_a, apIfS_t, apIfS_f, sIf_a, sNext_a, sCont_a, sBreak_a, apRet_some, sRet_a, apRetO_some, sRetO_a, sRetN_a, getO_z, getO_s, apRetV_some, sRetV_a, ltB_z, ltB_s, okSlot_s, apAsg_some, sAsg_a, dName_ok, apG_some, dgCons_a, dgNil_a, apAsgO_some, sAsgO_a, sApp_a, sSetI_a, apFor_some, sFor_a, dItems_a, dRng1_a, dRng2_a, apEn_some, apEn_tup, dEnum_a, sFrz_a, frzs_nil, frzs_cons, frzI_o, frzI_v, frzI_n, frzI_s, frz1_s, frzAll_nil, frzAll_o, frzAll_v, frzAll_n, peekT_a, apPk_int, apPk_bl, apPk_str, apPk_non, peekF_a, dCall_a, toO_o, dCallO_a, dMake_a, Wd_v, Wd_o, dSl_a, apSl_some, oNone_a, oSome_a, apO_some, add_ii, sub_ii, lt_ii, le_ii, gt_ii, ge_ii, eq_ii, ne_ii, neg_i, not_b, bl_b, tru_b, tru_i, tru_l, tru_t, tru_n, len_l, len_t, len_scr, abs_i, int_i, list_l, list_t, tuple_l, tuple_t, min_ii, max_ii, rev_l, items_l, items_t, iL_len, run_a, outW_rt, outW_nx, List.map_cons, List.map_nil, List.replicate, List.append_nil, List.cons_append, List.nil_append, List.set_cons_zero, List.set_cons_succ, Option.map_some, Int.reduceAdd, Int.reduceMul, Int.reduceSub, Int.reduceNeg, beq_self_eq_true, Bool.or_false, Bool.false_or, Bool.true_or, Bool.or_true, Bool.and_false, Bool.false_and, Bool.true_and, Bool.and_true, Zc.isi_ii, Zc.isi_ib, Zc.isi_tt, Zc.isi_ll, Zc.rowsT_len, Zc.rowsL_len, Zc.is_integer_call, Zc.ix_p0, Zc.ix_p1, apR1_any, Int.toNat_natCast, apR2_some, mod_ii, fdiv_ii, mul_small, apApp_some, ix_at, ix_atT, ix_atI, ix_atIT, ix_atR, ix_atRT, List.length_map, List.length_append, List.length_range, List.length_set, Option.map_none, Option.map_map, decide_true, decide_false, peekO_a, apPkO_i, frz_wo, frz_wv, frz_kk, wipeG_nil, wipeG_cons, orB_s, orB_t, orB_f, andB_s, andB_t, andB_f, orV_s, orV_t, orV_f, andV_s, andV_t, andV_f, apOr_b, apAnd_b, apOrV_b, apAndV_b, apCh_b, Zc.cut_from, Zc.cut_to, in_l, in_t, in_pr, eq_op_op, eq_op_pr, eq_pr_op, eq_pr_pr, ne_op_op, ne_op_pr, ne_pr_op, ne_pr_pr, isnt_op, is_op, pr_0, pr_1, st_0, st_1, inP_pr, ninP_pr, nin_l, isi_prt, len_pr, op_some])
local macro_rules | `(tactic| walk_at "zf") => `(tactic| first | (walk_at "zz"; done) | (walk_at "zz"; rfl) | rfl)
local macro_rules | `(tactic| walk_at "lc") => `(tactic| ((case hf => rfl); (case hi => first | (walk_at "zz"; done) | (walk_at "zz"; rfl) | rfl); (case hl => walk_at "zd"); (case h => (intro a ha; refine ⟨_, dName_ok rfl, ?_, fun hT => ?_⟩ <;> walk_at "zz" <;> rfl))))
local macro_rules | `(tactic| walk_at "lm") => `(tactic| ((case hf => rfl); (case hi => first | (walk_at "zz"; done) | (walk_at "zz"; rfl) | rfl); (case hl => walk_at "zd"); (case h => (intro a ha; refine ⟨_, dName_ok rfl, ?_⟩; walk_at "zz"; rfl))))
theorem at_cap {caps : List Int} (k : Int) : at_ caps k = capAt caps k := rfl
def roomOf (caps : List Int) (q : Pr) : Int := if Zc.capAt caps q.2 < Zc.capAt caps q.1 then Zc.capAt caps q.2 else Zc.capAt caps q.1
def InR (caps : List Int) (q : Pr) : Prop := (0 ≤ q.1 ∧ q.1 < (caps.length : Nat)) ∧ (0 ≤ q.2 ∧ q.2 < (caps.length : Nat))
theorem room_spec {caps : List Int} {q : Pr} (h : InR caps q) : g_law_room [.lst (iL caps), prD q] = some (.v (.int (roomOf caps q))) := by
  unfold g_law_room t_law_room
  obtain ⟨h1, h2⟩ := h
  walk_at "zz"
  rfl
theorem countO (dl : List (Option Pr)) (q : Pr) : (dl.filter fun a => decide (a = some q)).length = dl.count (some q) := by
  rw [← List.countP_eq_length_filter]
  unfold List.count
  congr 1
  funext o
  rw [Bool.eq_iff_iff]
  simp
theorem worn_spec (dl : List (Option Pr)) (q : Pr) (hl : dl.length ≤ 1000) : g_law_worn [.lst (dl.map opD), prD q] = some (.v (.int ((dl.count (some q) : Nat) : Int))) := by
  unfold g_law_worn t_law_worn
  walk_at "zz"
  rewrite [dLc_filt opD]
  walk_at "lc"
  walk_at "zz"
  rw [countO]
/-- the pairs of a row that have room -/
def heldP (caps : List Int) : List Int → List Pr
  | [] => []
  | a :: r => ((r.filter fun b => decide (0 < roomOf caps (a, b))).map fun b => (a, b)) ++ heldP caps r
theorem heldP_mem {caps : List Int} {n : Nat} : ∀ {h : List Int}, Asc n h → ∀ q : Pr, q ∈ heldP caps h ↔ q.1 ∈ h ∧ q.2 ∈ h ∧ q.1 < q.2 ∧ 0 < roomOf caps q
  | [], _, q => by simp [heldP]
  | a :: r, ha, q => by
    obtain ⟨x, y⟩ := q
    have h2 := List.pairwise_cons.mp ha.1
    have ih := heldP_mem (caps := caps) (n := n) (h := r) ⟨h2.2, fun k hk => ha.2 k (List.mem_cons_of_mem _ hk)⟩ (x, y)
    unfold heldP
    rw [List.mem_append, ih, List.mem_map]
    simp only [List.mem_filter, decide_eq_true_eq, List.mem_cons, Prod.mk.injEq]
    constructor
    · rintro (⟨b, ⟨hb, hp⟩, rfl, rfl⟩ | ⟨h1, h3, h4, h5⟩)
      · exact ⟨.inl rfl, .inr hb, h2.1 _ hb, hp⟩
      · exact ⟨.inr h1, .inr h3, h4, h5⟩
    · rintro ⟨h1 | h1, h3 | h3, h4, h5⟩
      · subst h1; subst h3; omega
      · subst h1; exact .inl ⟨y, ⟨h3, h5⟩, rfl, rfl⟩
      · subst h3; have := h2.1 x h1; omega
      · exact .inr ⟨h1, h3, h4, h5⟩
theorem heldP_len (caps : List Int) : ∀ h : List Int, (heldP caps h).length ≤ h.length * h.length
  | [] => Nat.le_refl _
  | a :: r => by
    have ih := heldP_len caps r
    have h2 := List.length_filter_le (fun b => decide (0 < roomOf caps (a, b))) r
    unfold heldP
    rw [List.length_append, List.length_map, List.length_cons]
    have : (r.length + 1) * (r.length + 1) = r.length * r.length + r.length + r.length + 1 := by rw [Nat.add_mul, Nat.mul_add]; omega
    omega
theorem held_in {caps h : List Int} (ha : Asc caps.length h) {q : Pr} (hq : q ∈ heldP caps h) : InR caps q := by
  have e := (heldP_mem ha q).mp hq
  exact ⟨ha.2 _ e.1, ha.2 _ e.2.1⟩
theorem held_spec {caps h : List Int} (ha : Asc caps.length h) (hc : caps.length ≤ 12) : g_law_held [.lst (iL caps), .lst (iL h)] = some (.o (.lst ((heldP caps h).map prD))) := by
  unfold g_law_held t_law_held
  have hl := ha.len
  have hh := heldP_len caps h
  have hb : h.length * h.length ≤ 12 * 12 := Nat.mul_le_mul (by omega) (by omega)
  walk_at "zs"
  rw [apR1_some (by omega)]
  walk_at "zs"
  refine rng_then (C := fun o => outW o = _) (fun i g => ∃ (acc : List Pr) (k3 k4 : Option Wd), g = [some (.v (.lst (iL caps))), some (.v (.lst (iL h))), some (.o (.lst (acc.map prD))), k3, k4] ∧ acc ++ heldP caps (h.drop i) = heldP caps h) ?_ ?_ ?_ ?_
  · exact ⟨[], _, _, rfl, rfl⟩
  · rintro i g ⟨acc, k3, k4, rfl, _⟩
    rfl
  · rintro i g hi ⟨acc, k3, k4, rfl, hacc⟩
    have e : h[i]? = some h[i] := List.getElem?_eq_getElem hi
    have hd : h.drop i = h[i] :: h.drop (i + 1) := List.drop_eq_getElem_cons hi
    have hx := ha.2 h[i] (List.getElem_mem hi)
    rw [hd] at hacc
    generalize h[i] = x at e hacc hx
    have ex : ixD (.lst (iL h)) (.int (i : Int)) = some (.int x) := Zc.ix_li e
    walk_at "zs"
    rw [show (i : Int) + 1 = ((i + 1 : Nat) : Int) by omega, Zc.cut_from, show (iL h).drop (i + 1) = iL (h.drop (i + 1)) from by unfold iL; rw [List.map_drop]]
    have hr : ∀ y ∈ h.drop (i + 1), 0 ≤ y ∧ y < (caps.length : Nat) := fun y hy => ha.2 y (List.mem_of_mem_drop hy)
    have hle : acc.length + (heldP caps (x :: h.drop (i + 1))).length ≤ 144 := by
      have := congrArg List.length hacc
      rw [List.length_append] at this
      omega
    rw [show heldP caps (x :: h.drop (i + 1)) = (((h.drop (i + 1)).filter fun b => decide (0 < roomOf caps (x, b))).map fun b => (x, b)) ++ heldP caps (h.drop (i + 1)) from rfl] at hacc hle
    rw [List.length_append] at hle
    rw [← List.append_assoc] at hacc
    generalize h.drop (i + 1) = r at hr hle hacc ⊢
    obtain ⟨g', eg, k4', rfl⟩ := loop_by (f := dName 4) (ds := iL r) (s := (sIf (tDt blD (d2 gtD (dN minD (aCons (d2 ixD (dVar 0) (d2 ixD (dVar 1) (dVar 3))) (aCons (d2 ixD (dVar 0) (dVar 4)) aNil))) (dC (.int 0))))
 (sApp 2 (dN mkTup (aCons (d2 ixD (dVar 1) (dVar 3)) (aCons (dVar 4) aNil))))
 sNext))
      (fun j g => ∃ k4 : Option Wd, g = [some (.v (.lst (iL caps))), some (.v (.lst (iL h))), some (.o (.lst ((acc ++ ((r.take j).filter fun b => decide (0 < roomOf caps (x, b))).map fun b => (x, b)).map prD))), some (.v (.int (i : Int))), k4])
      (g := [some (.v (.lst (iL caps))), some (.v (.lst (iL h))), some (.o (.lst (acc.map prD))), some (.v (.int (i : Int))), k4]) ⟨k4, by rw [List.take_zero]; simp⟩ (by
        rintro j d g hd ⟨k4, rfl⟩
        obtain ⟨y, hy, rfl⟩ : ∃ y, r[j]? = some y ∧ d = .int y := by
          rw [iL_get] at hd
          cases e : r[j]? with
          | none => rw [e] at hd; cases hd
          | some x => rw [e] at hd; cases hd; exact ⟨x, rfl, rfl⟩
        have hy' := hr y (List.mem_of_getElem? hy)
        refine ⟨_, dName_ok rfl, ?_⟩
        have et : (r.take (j + 1)) = r.take j ++ [y] := by rw [List.take_add_one, hy]; rfl
        have hbl : ((acc ++ ((r.take j).filter fun b => decide (0 < roomOf caps (x, b))).map fun b => (x, b)).map prD).length ≤ 144 := by
          rw [List.length_map, List.length_append, List.length_map]
          rw [List.length_map] at hle
          have : ((r.take j).filter fun b => decide (0 < roomOf caps (x, b))).length ≤ (r.filter fun b => decide (0 < roomOf caps (x, b))).length := ((List.take_sublist j r).filter _).length_le
          omega
        have eB : (acc ++ ((r.take j ++ [y]).filter fun b => decide (0 < roomOf caps (x, b))).map fun b => (x, b)) = (acc ++ ((r.take j).filter fun b => decide (0 < roomOf caps (x, b))).map fun b => (x, b)) ++ (([y] : List Int).filter fun b => decide (0 < roomOf caps (x, b))).map fun b => (x, b) := by rw [List.filter_append, List.map_append, List.append_assoc]
        rw [et, eB]
        generalize (acc ++ ((r.take j).filter fun b => decide (0 < roomOf caps (x, b))).map fun b => (x, b)) = B at hbl ⊢
        walk_at "zs"
        rw [ex]
        walk_at "zs"
        rw [Zc.ix_capl hx.1 hx.2, Zc.ix_capl hy'.1 hy'.2]
        walk_at "zs"
        have ey : decide (0 < if Zc.capAt caps y < Zc.capAt caps x then Zc.capAt caps y else Zc.capAt caps x) = decide (0 < roomOf caps (x, y)) := rfl
        rw [ey]
        cases hc : decide (0 < roomOf caps (x, y))
        · walk_at "zs"
          refine step_nx ⟨some (.v (.int y)), ?_⟩
          rw [List.filter_cons, hc]
          simp
        · walk_at "zs"
          rw [ex]
          walk_at "zs"
          rw [apApp_some (by omega)]
          walk_at "zs"
          refine step_nx ⟨some (.v (.int y)), ?_⟩
          rw [List.filter_cons, hc, List.map_append]
          rfl)
    rw [eg]
    refine step_nx ⟨_, _, k4', rfl, ?_⟩
    rw [iL_len, List.take_of_length_le (Nat.le_refl _)]
    exact hacc
  · rintro g ⟨acc, k3, k4, rfl, hacc⟩
    walk_at "zs"
    rw [List.drop_length, show heldP caps [] = [] from rfl, List.append_nil] at hacc
    rw [hacc]
end Zc
end

section
set_option Elab.async false
set_option linter.all false
set_option maxRecDepth 100000
set_option maxHeartbeats 2000000
/-! Dealings, as the laws judge them. -/
namespace Zc
open PySem L2 Zk
local macro_rules | `(tactic| walk_at "zs") => `(tactic| simp only [beq_self_eq_true, Bool.or_false, Bool.false_or, Bool.true_or, Bool.or_true, Bool.and_false, Bool.false_and, Bool.true_and, Bool.and_true, Zc.isi_ii, Zc.isi_ib, Zc.isi_tt, Zc.isi_ll, Zc.rowsT_len, Zc.rowsL_len, Zc.is_integer_call, Zc.ix_p0, Zc.ix_p1, dgTup2_a, dgTup3_a, Bool.not_true, Bool.not_false, mul_lz, List.flatten_cons, List.flatten_nil, Int.reduceToNat, add_ll, pow10_12, pow10_18, pow10_39, pow10_41, pow10_59, pow10_60, mkLst_some, mkTup_some, List.length_cons, List.length_nil, Nat.zero_le, Nat.reduceAdd, Nat.reduceLeDiff, call1, callO1, call2, callO2, call3, callO3, call4, callO4, call5, callO5, call6, callO6, ap1_some, ap2_some, apN_some, apC_some, d1_a, d2_a, dN_a, aNil_a, aCons_a, dC_a, dVar_z, dVar_s, tDt_a, apAnd_t, apAnd_f, apOr_t, apOr_f, dAndT_a, dOrT_a, apNot_some, dNotT_a, apAndV_t, apAndV_f, dAndV_a, apOrV_t, apOrV_f, dOrV_a, apIf_t, apIf_f, dIf_a, apCh_t, apCh_f, apChain_some, dChain_a, apSeq_nx, apSeq_rt, apSeq_ct, apSeq_bk, sSeq_a, apIfS_t, apIfS_f, sIf_a, sNext_a, sCont_a, sBreak_a, apRet_some, sRet_a, apRetO_some, sRetO_a, sRetN_a, getO_z, getO_s, apRetV_some, sRetV_a, ltB_z, ltB_s, okSlot_s, apAsg_some, sAsg_a, dName_ok, apG_some, dgCons_a, dgNil_a, apAsgO_some, sAsgO_a, sApp_a, sSetI_a, apFor_some, sFor_a, dItems_a, dRng1_a, dRng2_a, apEn_some, apEn_tup, dEnum_a, sFrz_a, frzs_nil, frzs_cons, frzI_o, frzI_v, frzI_n, frzI_s, frz1_s, frzAll_nil, frzAll_o, frzAll_v, frzAll_n, peekT_a, apPk_int, apPk_bl, apPk_str, apPk_non, peekF_a, dCall_a, toO_o, dCallO_a, dMake_a, Wd_v, Wd_o, dSl_a, apSl_some, oNone_a, oSome_a, apO_some, add_ii, sub_ii, lt_ii, le_ii, gt_ii, ge_ii, eq_ii, ne_ii, neg_i, not_b, bl_b, tru_b, tru_i, tru_l, tru_t, tru_n, len_l, len_t, len_scr, abs_i, int_i, list_l, list_t, tuple_l, tuple_t, min_ii, max_ii, rev_l, items_l, items_t, iL_len, run_a, outW_rt, outW_nx, List.map_cons, List.map_nil, List.replicate, List.append_nil, List.cons_append, List.nil_append, List.set_cons_zero, List.set_cons_succ, Option.map_some])
local macro_rules | `(tactic| walk_at "zd") => `(tactic| first | ((with_reducible show okSlot _ _ = true); simp only [okSlot_s, ltB_z, ltB_s]; done) | omega | assumption | decide | (simp only [List.length_map, List.length_append, List.length_cons, List.length_nil, List.length_range, List.length_set, List.length_reverse, iL_len, Zc.rowsT_len, Zc.rowsL_len] at *; omega))
local macro_rules | `(tactic| walk_at "zz") => `(tactic| simp (disch := walk_at "zd") only [dgTup2_a, dgTup3_a, Bool.not_true, Bool.not_false, mul_lz, List.flatten_cons, List.flatten_nil, Int.reduceToNat, add_ll, pow10_12, pow10_18, pow10_39, pow10_41, pow10_59, pow10_60, mkLst_some, mkTup_some, List.length_cons, List.length_nil, Nat.zero_le, Nat.reduceAdd, Nat.reduceLeDiff, call1, callO1, call2, callO2, call3, callO3, call4, callO4, call5, callO5, call6, callO6, ap1_some, ap2_some, apN_some, apC_some, d1_a, d2_a, dN_a, aNil_a, aCons_a, dC_a, dVar_z, dVar_s, tDt_a, apAnd_t, apAnd_f, apOr_t, apOr_f, dAndT_a, dOrT_a, apNot_some, dNotT_a, apAndV_t, apAndV_f, dAndV_a, apOrV_t, apOrV_f, dOrV_a, apIf_t, apIf_f, dIf_a, apCh_t, apCh_f, apChain_some, dChain_a, apSeq_nx, apSeq_rt, apSeq_ct, apSeq_bk, sSeq_a, apIfS_t, apIfS_f, sIf_a, sNext_a, sCont_a, sBreak_a, apRet_some, sRet_a, apRetO_some, sRetO_a, sRetN_a, getO_z, getO_s, apRetV_some, sRetV_a, ltB_z, ltB_s, okSlot_s, apAsg_some, sAsg_a, dName_ok, apG_some, dgCons_a, dgNil_a, apAsgO_some, sAsgO_a, sApp_a, sSetI_a, apFor_some, sFor_a, dItems_a, dRng1_a, dRng2_a, apEn_some, apEn_tup, dEnum_a, sFrz_a, frzs_nil, frzs_cons, frzI_o, frzI_v, frzI_n, frzI_s, frz1_s, frzAll_nil, frzAll_o, frzAll_v, frzAll_n, peekT_a, apPk_int, apPk_bl, apPk_str, apPk_non, peekF_a, dCall_a, toO_o, dCallO_a, dMake_a, Wd_v, Wd_o, dSl_a, apSl_some, oNone_a, oSome_a, apO_some, add_ii, sub_ii, lt_ii, le_ii, gt_ii, ge_ii, eq_ii, ne_ii, neg_i, not_b, bl_b, tru_b, tru_i, tru_l, tru_t, tru_n, len_l, len_t, len_scr, abs_i, int_i, list_l, list_t, tuple_l, tuple_t, min_ii, max_ii, rev_l, items_l, items_t, iL_len, run_a, outW_rt, outW_nx, List.map_cons, List.map_nil, List.replicate, List.append_nil, List.cons_append, List.nil_append, List.set_cons_zero, List.set_cons_succ, Option.map_some, Int.reduceAdd, Int.reduceMul, Int.reduceSub, Int.reduceNeg, beq_self_eq_true, Bool.or_false, Bool.false_or, Bool.true_or, Bool.or_true, Bool.and_false, Bool.false_and, Bool.true_and, Bool.and_true, Zc.isi_ii, Zc.isi_ib, Zc.isi_tt, Zc.isi_ll, Zc.rowsT_len, Zc.rowsL_len, Zc.is_integer_call, Zc.ix_p0, Zc.ix_p1, apR1_any, Int.toNat_natCast, apR2_some, mod_ii, fdiv_ii, mul_small, apApp_some, ix_at, ix_atT, ix_atI, ix_atIT, ix_atR, ix_atRT, List.length_map, List.length_append, List.length_range, List.length_set, Option.map_none, Option.map_map, decide_true, decide_false, peekO_a, apPkO_i, frz_wo, frz_wv, frz_kk, wipeG_nil, wipeG_cons, orB_s, orB_t, orB_f, andB_s, andB_t, andB_f, orV_s, orV_t, orV_f, andV_s, andV_t, andV_f, apOr_b, apAnd_b, apOrV_b, apAndV_b, apCh_b, Zc.cut_from, Zc.cut_to, in_l, in_t, in_pr, eq_op_op, eq_op_pr, eq_pr_op, eq_pr_pr, ne_op_op, ne_op_pr, ne_pr_op, ne_pr_pr, isnt_op, is_op, pr_0, pr_1, st_0, st_1, inP_pr, ninP_pr, nin_l, isi_prt, len_pr, op_some])
local macro_rules | `(tactic| walk_at "zf") => `(tactic| first | (walk_at "zz"; done) | (walk_at "zz"; rfl) | rfl)
local macro_rules | `(tactic| walk_at "lc") => `(tactic| ((case hf => rfl); (case hi => first | (walk_at "zz"; done) | (walk_at "zz"; rfl) | rfl); (case hl => walk_at "zd"); (case h => (intro a ha; refine ⟨_, dName_ok rfl, ?_, fun hT => ?_⟩ <;> walk_at "zz" <;> rfl))))
local macro_rules | `(tactic| walk_at "lm") => `(tactic| ((case hf => rfl); (case hi => first | (walk_at "zz"; done) | (walk_at "zz"; rfl) | rfl); (case hl => walk_at "zd"); (case h => (intro a ha; refine ⟨_, dName_ok rfl, ?_⟩; walk_at "zz"; rfl))))
/-- a row lies below another by its pieces -/
structure IsDeal (caps : List Int) (hs : List (List Int)) (dl : List (Option Pr)) : Prop where
  len : dl.length = hs.length
  held : ∀ (p : Nat) (q : Pr), dl[p]? = some (some q) → q.1 < q.2 ∧ q.1 ∈ at_ hs p ∧ q.2 ∈ at_ hs p
  room : ∀ q : Pr, some q ∈ dl → ((dl.count (some q) : Nat) : Int) ≤ roomOf caps q
theorem pairsL_prD (n : Nat) : ∃ ps : List Pr, pairsL n = ps.map prD ∧ ∀ q : Pr, q ∈ ps ↔ 0 ≤ q.1 ∧ q.1 < q.2 ∧ q.2 < (n : Int) := by
  refine ⟨(List.range n).flatMap fun a => (List.range (n - (a + 1))).map fun j => ((a : Int), ((a + 1 + j : Nat) : Int)), ?_, fun q => ?_⟩
  · unfold pairsL rowP
    rw [List.map_flatMap]
    congr 1
    funext a
    rw [List.map_map]
    rfl
  · rw [List.mem_flatMap]
    constructor
    · rintro ⟨a, ha, h⟩
      obtain ⟨j, hj, rfl⟩ := List.mem_map.mp h
      rw [List.mem_range] at ha hj
      exact ⟨by simp, by simp; omega, by simp; omega⟩
    · rintro ⟨h1, h2, h3⟩
      obtain ⟨x, y⟩ := q
      simp only at h1 h2 h3
      refine ⟨x.toNat, List.mem_range.mpr (by omega), List.mem_map.mpr ⟨(y - x - 1).toNat, List.mem_range.mpr (by omega), ?_⟩⟩
      ext <;> simp <;> omega
theorem law_is_dealing_spec {caps : List Int} {hs : List (List Int)} {m : Nat} (ok : PoolOk caps hs m) (hm : m ≤ 100) (dl : List (Option Pr)) (hl : dl.length ≤ 1000) :
    ∃ b : Bool, g_law_is_dealing [.lst (iL caps), .lst (rowsL hs), .lst (dl.map opD)] = some (.v (.bl b)) ∧ (b = true ↔ IsDeal caps hs dl) := by
  unfold g_law_is_dealing t_law_is_dealing
  have h12 := ok.s12
  have hpm := ok.pm
  walk_at "zz"
  have out : ∀ b : Bool, (b = true ↔ IsDeal caps hs dl) → ∃ b' : Bool, some (Wd.v (.bl b)) = some (Wd.v (.bl b')) ∧ (b' = true ↔ IsDeal caps hs dl) := fun b h => ⟨b, rfl, h⟩
  have no : ¬ IsDeal caps hs dl → ∃ b' : Bool, some (Wd.v (.bl false)) = some (Wd.v (.bl b')) ∧ (b' = true ↔ IsDeal caps hs dl) := fun h => ⟨false, rfl, by simp [h]⟩
  refine if_cut (C := fun o => ∃ b : Bool, outW o = some (.v (.bl b)) ∧ (b = true ↔ IsDeal caps hs dl)) (fun e => ?_) (fun e => ?_)
  · walk_at "zz"
    simp only [Bool.not_eq_true', beq_eq_false_iff_ne] at e
    exact no fun h => e (by rw [h.len])
  · simp only [Bool.not_eq_false', beq_iff_eq] at e
    have hlen : dl.length = hs.length := by omega
    walk_at "zz"
    refine gen_rng (C := fun o => ∃ b : Bool, outW o = some (.v (.bl b)) ∧ (b = true ↔ IsDeal caps hs dl)) (fun w => w = .v (.bl false) ∧ ¬ IsDeal caps hs dl) (fun _ => False)
      (fun i g => ∃ k3 k4 : Option Wd, g = [some (.v (.lst (iL caps))), some (.v (.lst (rowsL hs))), some (.v (.lst (dl.map opD))), k3, k4, none] ∧ ∀ (p : Nat) (q : Pr), p < i → dl[p]? = some (some q) → q.1 < q.2 ∧ q.1 ∈ at_ hs p ∧ q.2 ∈ at_ hs p) ?_ ?_ ?_ ?_ ?_ ?_
    · exact ⟨_, _, rfl, fun p q h => by omega⟩
    · rintro i g ⟨k3, k4, rfl, _⟩
      rfl
    · rintro i g hi ⟨k3, k4, rfl, hh⟩
      walk_at "zz"
      have eo := at_get (xs := dl) (k := (i : Int)) (by omega) (by omega)
      rw [Int.toNat_natCast] at eo
      generalize at_ dl (i : Int) = o at eo ⊢
      cases o with
      | none =>
        rw [decide_eq_true (rfl : (none : Option Pr) = none)]
        walk_at "zz"
        refine turn_nx ⟨_, _, rfl, fun p q hp e => ?_⟩
        by_cases h : p = i
        · subst h; rw [eo] at e; cases e
        · exact hh p q (by omega) e
      | some q =>
        rw [decide_eq_false (by simp : ¬ (some q = none))]
        walk_at "zz"
        refine if_end (C := fun o => Turn o _ _ _) (fun e => ?_) (fun e => ?_)
        · walk_at "zz"
          refine turn_rt ⟨rfl, fun h => ?_⟩
          have h2 := h.held i q eo
          simp only [Bool.or_eq_true, Bool.not_eq_true', decide_eq_false_iff_not, Bool.eq_false_iff, Ne, List.contains_iff_mem] at e
          rcases e with e | e | e
          · exact e (decide_eq_true h2.1)
          · exact e h2.2.1
          · exact e h2.2.2
        · walk_at "zz"
          simp only [Bool.or_eq_false_iff, Bool.not_eq_false', decide_eq_true_eq, List.contains_iff_mem] at e
          refine turn_nx ⟨_, _, rfl, fun p q' hp e' => ?_⟩
          by_cases h : p = i
          · subst h; rw [eo] at e'; cases e'; exact ⟨e.1, e.2.1, e.2.2⟩
          · exact hh p q' (by omega) e'
    · rintro g ⟨k3, k4, rfl, hh⟩
      walk_at "zz"
      rw [pairs_spec caps.length (by omega)]
      walk_at "zz"
      obtain ⟨ps, hps, hpm2⟩ := pairsL_prD caps.length
      rw [hps]
      refine gen_then (C := fun o => ∃ b : Bool, outW o = some (.v (.bl b)) ∧ (b = true ↔ IsDeal caps hs dl)) (fun w => w = .v (.bl false) ∧ ¬ IsDeal caps hs dl) (fun _ => False)
        (fun i g => ∃ k3 k4 : Option Wd, g = [some (.v (.lst (iL caps))), some (.v (.lst (rowsL hs))), some (.v (.lst (dl.map opD))), k3, k4, none] ∧ ∀ (j : Nat) (q : Pr), j < i → ps[j]? = some q → ((dl.count (some q) : Nat) : Int) ≤ roomOf caps q) ?_ ?_ ?_ ?_ ?_
      · exact ⟨_, _, rfl, fun p q h => by omega⟩
      · rintro i d g hd ⟨k3, k4, rfl, hc⟩
        rw [List.getElem?_map] at hd
        cases eq : ps[i]? with
        | none => rw [eq] at hd; cases hd
        | some q =>
          rw [eq] at hd
          cases hd
          have hq := (hpm2 q).mp (List.mem_of_getElem? eq)
          refine ⟨_, dName_ok rfl, ?_⟩
          walk_at "zz"
          rewrite [dLc_filt opD]
          walk_at "lc"
          walk_at "zz"
          rw [countO]
          have er : (if at_ caps q.2 < at_ caps q.1 then at_ caps q.2 else at_ caps q.1) = roomOf caps q := rfl
          rw [er]
          refine if_end (C := fun o => Turn o _ _ _) (fun e => ?_) (fun e => ?_)
          · walk_at "zz"
            refine turn_rt ⟨rfl, fun h => ?_⟩
            have e := of_decide_eq_true e
            have h0 : 0 ≤ roomOf caps q := by
              have c1 := (ok.c0 _ (at_mem (xs := caps) (k := q.1) (by omega) (by omega))).1
              have c2 := (ok.c0 _ (at_mem (xs := caps) (k := q.2) (by omega) (by omega))).1
              rw [← er]
              split <;> assumption
            have := h.room q (List.count_pos_iff.mp (by omega))
            omega
          · walk_at "zz"
            have e := of_decide_eq_false e
            refine turn_nx ⟨_, _, rfl, fun j q' hj ej => ?_⟩
            by_cases h : j = i
            · subst h; rw [eq] at ej; cases ej; omega
            · exact hc j q' (by omega) ej
      · rintro g ⟨k3, k4, rfl, hc⟩
        walk_at "zz"
        refine ⟨true, rfl, fun _ => ⟨hlen, fun p q e => hh p q (by have := (List.getElem?_eq_some_iff.mp e).1; omega) e, fun q hq => ?_⟩, fun _ => rfl⟩
        obtain ⟨p, hp⟩ := List.mem_iff_getElem?.mp hq
        have h1 : p < dl.length := (List.getElem?_eq_some_iff.mp hp).1
        have h2 := hh p q (by omega) hp
        have ha := ok.asc (at_ hs p) (at_mem (by omega) (by omega))
        have hq2 : q ∈ ps := (hpm2 q).mpr ⟨(ha.2 _ h2.2.1).1, h2.1, (ha.2 _ h2.2.2).2⟩
        obtain ⟨j, hj⟩ := List.mem_iff_getElem?.mp hq2
        exact hc j q (by rw [List.length_map]; exact (List.getElem?_eq_some_iff.mp hj).1) hj
      · intro g h; exact h.elim
      · rintro w ⟨rfl, h⟩; exact no h
    · intro g h; exact h.elim
    · rintro w ⟨rfl, h⟩; exact no h
end Zc
end

section
set_option Elab.async false
set_option linter.all false
set_option maxRecDepth 100000
set_option maxHeartbeats 2000000
/-! Changing what is laid out; dealings and pools that the laws draw. -/
namespace Zc
open PySem L2 Zk
theorem setI_at {α : Type} {f : α → D} {a : α} {xs : List α} {k : Int} {i : Nat} {g : Gm} {d : D} (e : d = f a) (h0 : 0 ≤ k) (h : k < (xs.length : Nat)) :
    apSetI (some d) (some (.int k)) (some (.lst (xs.map f))) i g = some (.nx (g.set i (some (.o (.lst ((xs.set k.toNat a).map f)))))) := by
  have e1 := apSetI_some (d := d) (ds := xs.map f) (i := i) (g := g) (j := k.toNat) (by rw [List.length_map]; omega)
  rw [show ((k.toNat : Nat) : Int) = k by omega] at e1
  rw [e1, e, List.map_set]
section
variable {k x : Int} {i : Nat} {g : Gm} {q : Pr} {o : Option Pr}
theorem setI_i {xs : List Int} (h0 : 0 ≤ k) (h : k < (xs.length : Nat)) : apSetI (some (.int x)) (some (.int k)) (some (.lst (iL xs))) i g = some (.nx (g.set i (some (.o (.lst (iL (xs.set k.toNat x))))))) := setI_at (f := D.int) rfl h0 h
theorem setI_p {xs : List (Option Pr)} (h0 : 0 ≤ k) (h : k < (xs.length : Nat)) : apSetI (some (prD q)) (some (.int k)) (some (.lst (xs.map opD))) i g = some (.nx (g.set i (some (.o (.lst ((xs.set k.toNat (some q)).map opD)))))) := setI_at (f := opD) rfl h0 h
theorem setI_o {xs : List (Option Pr)} (h0 : 0 ≤ k) (h : k < (xs.length : Nat)) : apSetI (some (opD o)) (some (.int k)) (some (.lst (xs.map opD))) i g = some (.nx (g.set i (some (.o (.lst ((xs.set k.toNat o).map opD)))))) := setI_at (f := opD) rfl h0 h
theorem setI_n {xs : List (Option Pr)} (h0 : 0 ≤ k) (h : k < (xs.length : Nat)) : apSetI (some .non) (some (.int k)) (some (.lst (xs.map opD))) i g = some (.nx (g.set i (some (.o (.lst ((xs.set k.toNat none).map opD)))))) := setI_at (f := opD) (a := none) rfl h0 h
theorem snoc_i {xs : List Int} : iL xs ++ [D.int x] = iL (xs ++ [x]) := by unfold iL; rw [List.map_append]; rfl
theorem snoc_r {hs : List (List Int)} {h : List Int} : rowsL hs ++ [.lst (iL h)] = rowsL (hs ++ [h]) := rowsL_snoc
theorem snoc_p {xs : List (Option Pr)} : xs.map opD ++ [prD q] = (xs ++ [some q]).map opD := by rw [List.map_append]; rfl
theorem snoc_n {xs : List (Option Pr)} : xs.map opD ++ [D.non] = (xs ++ [none]).map opD := by rw [List.map_append]; rfl
theorem snoc_o {xs : List (Option Pr)} : xs.map opD ++ [opD o] = (xs ++ [o]).map opD := by rw [List.map_append]; rfl
theorem snoc_pp {xs : List Pr} : xs.map prD ++ [prD q] = (xs ++ [q]).map prD := by rw [List.map_append]; rfl
theorem snoc_s {xs : List (Int × Pr)} : xs.map stD ++ [D.tup [.int x, prD q]] = (xs ++ [(x, q)]).map stD := by rw [List.map_append]; rfl
theorem eq_ol {xs ys : List (Option Pr)} : eqD (.lst (xs.map opD)) (.lst (ys.map opD)) = some (.bl (decide (xs = ys))) := encOp.lst.eqD (by decide) xs ys
theorem ne_ol {xs ys : List (Option Pr)} : neD (.lst (xs.map opD)) (.lst (ys.map opD)) = some (.bl (!decide (xs = ys))) := encOp.lst.neD (by decide) xs ys
theorem eq_pl {xs ys : List Pr} : eqD (.lst (xs.map prD)) (.lst (ys.map prD)) = some (.bl (decide (xs = ys))) := encPr.lst.eqD (by decide) xs ys
theorem ne_pl {xs ys : List Pr} : neD (.lst (xs.map prD)) (.lst (ys.map prD)) = some (.bl (!decide (xs = ys))) := encPr.lst.neD (by decide) xs ys
theorem eq_sl {xs ys : List (Int × Pr)} : eqD (.lst (xs.map stD)) (.lst (ys.map stD)) = some (.bl (decide (xs = ys))) := encSt.lst.eqD (by decide) xs ys
theorem ne_sl {xs ys : List (Int × Pr)} : neD (.lst (xs.map stD)) (.lst (ys.map stD)) = some (.bl (!decide (xs = ys))) := encSt.lst.neD (by decide) xs ys
theorem eq_il {xs ys : List Int} : eqD (.lst (iL xs)) (.lst (iL ys)) = some (.bl (decide (xs = ys))) := encInt.lst.eqD (by decide) xs ys
theorem ne_il {xs ys : List Int} : neD (.lst (iL xs)) (.lst (iL ys)) = some (.bl (!decide (xs = ys))) := encInt.lst.neD (by decide) xs ys
theorem eq_rl {xs ys : List (List Int)} : eqD (.lst (rowsL xs)) (.lst (rowsL ys)) = some (.bl (decide (xs = ys))) := encInt.lst.lst.eqD (by decide) xs ys
theorem ne_rl {xs ys : List (List Int)} : neD (.lst (rowsL xs)) (.lst (rowsL ys)) = some (.bl (!decide (xs = ys))) := encInt.lst.lst.neD (by decide) xs ys
theorem eq_il1 {xs : List Int} : eqD (.lst (iL xs)) (.lst [.int x]) = some (.bl (decide (xs = [x]))) := eq_il (ys := [x])
theorem fold_rows {hs : List (List Int)} : (hs.map fun h => D.lst (iL h)) = rowsL hs := rfl
theorem fold_rowsT {hs : List (List Int)} : (hs.map fun h => D.tup (iL h)) = rowsT hs := rfl
theorem isi_bb {b : Bool} : isiD [.bl b, .ty "bool"] = some (.bl true) := rfl
theorem eq_bb {a b : Bool} : eqD (.bl a) (.bl b) = some (.bl (a == b)) := rfl
theorem ne_bb {a b : Bool} : neD (.bl a) (.bl b) = some (.bl (!(a == b))) := rfl
theorem nil_op : ([] : List D) = ([] : List (Option Pr)).map opD := rfl
end
local macro_rules | `(tactic| walk_at "zs") => `(tactic| simp only [beq_self_eq_true, Bool.or_false, Bool.false_or, Bool.true_or, Bool.or_true, Bool.and_false, Bool.false_and, Bool.true_and, Bool.and_true, Zc.isi_ii, Zc.isi_ib, Zc.isi_tt, Zc.isi_ll, Zc.rowsT_len, Zc.rowsL_len, Zc.is_integer_call, Zc.ix_p0, Zc.ix_p1, dgTup2_a, dgTup3_a, Bool.not_true, Bool.not_false, mul_lz, List.flatten_cons, List.flatten_nil, Int.reduceToNat, add_ll, pow10_12, pow10_18, pow10_39, pow10_41, pow10_59, pow10_60, mkLst_some, mkTup_some, List.length_cons, List.length_nil, Nat.zero_le, Nat.reduceAdd, Nat.reduceLeDiff, call1, callO1, call2, callO2, call3, callO3, call4, callO4, call5, callO5, call6, callO6, ap1_some, ap2_some, apN_some, apC_some, d1_a, d2_a, dN_a, aNil_a, aCons_a, dC_a, dVar_z, dVar_s, tDt_a, apAnd_t, apAnd_f, apOr_t, apOr_f, dAndT_a, dOrT_a, apNot_some, dNotT_a, apAndV_t, apAndV_f, dAndV_a, apOrV_t, apOrV_f, dOrV_a, apIf_t, apIf_f, dIf_a, apCh_t, apCh_f, apChain_some, dChain_a, apSeq_nx, apSeq_rt, apSeq_ct, apSeq_bk, sSeq_a, apIfS_t, apIfS_f, sIf_a, sNext_a, sCont_a, sBreak_a, apRet_some, sRet_a, apRetO_some, sRetO_a, sRetN_a, getO_z, getO_s, apRetV_some, sRetV_a, ltB_z, ltB_s, okSlot_s, apAsg_some, sAsg_a, dName_ok, apG_some, dgCons_a, dgNil_a, apAsgO_some, sAsgO_a, sApp_a, sSetI_a, apFor_some, sFor_a, dItems_a, dRng1_a, dRng2_a, apEn_some, apEn_tup, dEnum_a, sFrz_a, frzs_nil, frzs_cons, frzI_o, frzI_v, frzI_n, frzI_s, frz1_s, frzAll_nil, frzAll_o, frzAll_v, frzAll_n, peekT_a, apPk_int, apPk_bl, apPk_str, apPk_non, peekF_a, dCall_a, toO_o, dCallO_a, dMake_a, Wd_v, Wd_o, dSl_a, apSl_some, oNone_a, oSome_a, apO_some, add_ii, sub_ii, lt_ii, le_ii, gt_ii, ge_ii, eq_ii, ne_ii, neg_i, not_b, bl_b, tru_b, tru_i, tru_l, tru_t, tru_n, len_l, len_t, len_scr, abs_i, int_i, list_l, list_t, tuple_l, tuple_t, min_ii, max_ii, rev_l, items_l, items_t, iL_len, run_a, outW_rt, outW_nx, List.map_cons, List.map_nil, List.replicate, List.append_nil, List.cons_append, List.nil_append, List.set_cons_zero, List.set_cons_succ, Option.map_some])
local macro_rules | `(tactic| walk_at "zd") => `(tactic| first | ((with_reducible show okSlot _ _ = true); simp only [okSlot_s, ltB_z, ltB_s]; done) | omega | assumption | decide | (simp only [List.length_map, List.length_append, List.length_cons, List.length_nil, List.length_range, List.length_set, List.length_reverse, iL_len, Zc.rowsT_len, Zc.rowsL_len] at *; omega))
local macro_rules | `(tactic| walk_at "zz") => `(tactic| simp (disch := walk_at "zd") only [dgTup2_a, dgTup3_a, Bool.not_true, Bool.not_false, mul_lz, List.flatten_cons, List.flatten_nil, Int.reduceToNat, add_ll, pow10_12, pow10_18, pow10_39, pow10_41, pow10_59, pow10_60, mkLst_some, mkTup_some, List.length_cons, List.length_nil, Nat.zero_le, Nat.reduceAdd, Nat.reduceLeDiff, call1, callO1, call2, callO2, call3, callO3, call4, callO4, call5, callO5, call6, callO6, ap1_some, ap2_some, apN_some, apC_some, d1_a, d2_a, dN_a, aNil_a, aCons_a, dC_a, dVar_z, dVar_s, tDt_a, apAnd_t, apAnd_f, apOr_t, apOr_f, dAndT_a, dOrT_a, apNot_some, dNotT_a, apAndV_t, apAndV_f, dAndV_a, apOrV_t, apOrV_f, dOrV_a, apIf_t, apIf_f, dIf_a, apCh_t, apCh_f, apChain_some, dChain_a, apSeq_nx, apSeq_rt, apSeq_ct, apSeq_bk, sSeq_a, apIfS_t, apIfS_f, sIf_a, sNext_a, sCont_a, sBreak_a, apRet_some, sRet_a, apRetO_some, sRetO_a, sRetN_a, getO_z, getO_s, apRetV_some, sRetV_a, ltB_z, ltB_s, okSlot_s, apAsg_some, sAsg_a, dName_ok, apG_some, dgCons_a, dgNil_a, apAsgO_some, sAsgO_a, sApp_a, sSetI_a, apFor_some, sFor_a, dItems_a, dRng1_a, dRng2_a, apEn_some, apEn_tup, dEnum_a, sFrz_a, frzs_nil, frzs_cons, frzI_o, frzI_v, frzI_n, frzI_s, frz1_s, frzAll_nil, frzAll_o, frzAll_v, frzAll_n, peekT_a, apPk_int, apPk_bl, apPk_str, apPk_non, peekF_a, dCall_a, toO_o, dCallO_a, dMake_a, Wd_v, Wd_o, dSl_a, apSl_some, oNone_a, oSome_a, apO_some, add_ii, sub_ii, lt_ii, le_ii, gt_ii, ge_ii, eq_ii, ne_ii, neg_i, not_b, bl_b, tru_b, tru_i, tru_l, tru_t, tru_n, len_l, len_t, len_scr, abs_i, int_i, list_l, list_t, tuple_l, tuple_t, min_ii, max_ii, rev_l, items_l, items_t, iL_len, run_a, outW_rt, outW_nx, List.map_cons, List.map_nil, List.replicate, List.append_nil, List.cons_append, List.nil_append, List.set_cons_zero, List.set_cons_succ, Option.map_some, Int.reduceAdd, Int.reduceMul, Int.reduceSub, Int.reduceNeg, beq_self_eq_true, Bool.or_false, Bool.false_or, Bool.true_or, Bool.or_true, Bool.and_false, Bool.false_and, Bool.true_and, Bool.and_true, Zc.isi_ii, Zc.isi_ib, Zc.isi_tt, Zc.isi_ll, Zc.rowsT_len, Zc.rowsL_len, Zc.is_integer_call, Zc.ix_p0, Zc.ix_p1, apR1_any, Int.toNat_natCast, apR2_some, mod_ii, fdiv_ii, mul_small, apApp_some, ix_at, ix_atT, ix_atI, ix_atIT, ix_atR, ix_atRT, List.length_map, List.length_append, List.length_range, List.length_set, Option.map_none, Option.map_map, decide_true, decide_false, peekO_a, apPkO_i, frz_wo, frz_wv, frz_kk, wipeG_nil, wipeG_cons, orB_s, orB_t, orB_f, andB_s, andB_t, andB_f, orV_s, orV_t, orV_f, andV_s, andV_t, andV_f, apOr_b, apAnd_b, apOrV_b, apAndV_b, apCh_b, Zc.cut_from, Zc.cut_to, in_l, in_t, in_pr, eq_op_op, eq_op_pr, eq_pr_op, eq_pr_pr, ne_op_op, ne_op_pr, ne_pr_op, ne_pr_pr, isnt_op, is_op, pr_0, pr_1, st_0, st_1, inP_pr, ninP_pr, nin_l, isi_prt, len_pr, op_some, prD_eq, ix_lit2, ix_lit3, ix_lit4, ix_lit5, ix_lit6, ix_lit7, ix_lit8, ix_lit9, ix_lit10, ix_lit11, ix_lit12, ix_lit13, ix_lit14, ix_lit15, setI_i, setI_p, setI_o, setI_n, snoc_i, snoc_r, snoc_p, snoc_n, snoc_o, snoc_pp, snoc_s, eq_ol, ne_ol, eq_pl, ne_pl, eq_sl, ne_sl, eq_il, ne_il, eq_rl, ne_rl, eq_il1, isi_bb, eq_bb, ne_bb])
local macro_rules | `(tactic| walk_at "zf") => `(tactic| first | (walk_at "zz"; done) | (walk_at "zz"; rfl) | rfl)
local macro_rules | `(tactic| walk_at "lc") => `(tactic| ((case hf => rfl); (case hi => first | (walk_at "zz"; done) | (walk_at "zz"; rfl) | rfl); (case hl => walk_at "zd"); (case h => (intro a ha; refine ⟨_, dName_ok rfl, ?_, fun hT => ?_⟩ <;> walk_at "zz" <;> rfl))))
local macro_rules | `(tactic| walk_at "lm") => `(tactic| ((case hf => rfl); (case hi => first | (walk_at "zz"; done) | (walk_at "zz"; rfl) | rfl); (case hl => walk_at "zd"); (case h => (intro a ha; refine ⟨_, dName_ok rfl, ?_⟩; walk_at "zz"; rfl))))
def t_law_filled : SF :=
 (sSeq (sAsgO (dN mkLst aNil) 5)
 (sSeq (sFor (dRng1 (aCons (dN lenD (aCons (dVar 1) aNil)) aNil)) (dName 6)
 (sSeq (sAsg (dN intD (aCons (d2 ixD (dVar 2) (d2 addD (dVar 3) (dVar 6))) aNil)) (dName 7))
 (sSeq (sAsg (dLc (dItems (dCall 2 (g_law_held) (aCons (dVar 0) (aCons (d2 ixD (dVar 1) (dVar 6)) aNil)))) (dName 9) (peekT (tDt blD (d2 ltD (dCall 2 (g_law_worn) (aCons (dVar 5) (aCons (dVar 9) aNil))) (dCall 2 (g_law_room) (aCons (dVar 0) (aCons (dVar 9) aNil)))))) (dVar 9) [9]) (dName 8))
 (sIf (dAndT (tDt blD (d2 gtD (dN lenD (aCons (dVar 8) aNil)) (dC (.int 0)))) (tDt blD (d2 geD (d2 modD (dN intD (aCons (dVar 7) aNil)) (dC (.int 4))) (dVar 4))))
 (sApp 5 (d2 ixD (dVar 8) (d2 modD (dN intD (aCons (d2 fdivD (dVar 7) (dC (.int 4))) aNil)) (dN lenD (aCons (dVar 8) aNil)))))
 (sApp 5 (dC .non))))))
 (sRetV 5)))
def g_law_filled : PF := runG 5 (t_law_filled)
def t_law_rich : SF :=
 (sSeq (sAsg (dCall 2 (g_law_draws) (aCons (dVar 0) (aCons (d2 addD (d2 addD (dN mkLst (aCons (dC (.int 4)) (aCons (dC (.int 4)) aNil))) (d2 mulD (dN mkLst (aCons (dC (.int 4)) aNil)) (dC (.int 5)))) (d2 mulD (dN mkLst (aCons (dC (.int 8)) aNil)) (dC (.int 7)))) aNil))) (dName 1))
 (sSeq (sAsg (d2 ixD (dN mkTup (aCons (dC (.int 3)) (aCons (dC (.int 3)) (aCons (dC (.int 4)) (aCons (dC (.int 5)) aNil))))) (d2 ixD (dVar 1) (dC (.int 0)))) (dName 2))
 (sSeq (sAsg (dLc (dRng1 (aCons (dVar 2) aNil)) (dName 7) dYes (d2 ixD (dN mkTup (aCons (dC (.int 1)) (aCons (dC (.int 1)) (aCons (dC (.int 2)) (aCons (dC (.int 2)) aNil))))) (d2 ixD (dVar 1) (d2 addD (dC (.int 2)) (dVar 7)))) [7]) (dName 3))
 (sSeq (sAsgO (dN mkLst aNil) 4)
 (sSeq (sFor (dRng1 (aCons (d2 addD (dC (.int 4)) (d2 ixD (dVar 1) (dC (.int 1)))) aNil)) (dName 5)
 (sSeq (sAsg (d2 subD (d2 ixD (dVar 1) (d2 addD (dC (.int 7)) (dVar 5))) (dC (.int 2))) (dName 6))
 (sApp 4 (dLc (dRng1 (aCons (dVar 2) aNil)) (dName 7) (tDt blD (d2 neD (dVar 7) (dVar 6))) (dVar 7) [7]))))
 (sFrz [4] (sRet (dN mkTup (aCons (dVar 3) (aCons (dVar 4) aNil))))))))))
def g_law_rich : PF := runG 7 (t_law_rich)
def t_law_wide : SF :=
 (sSeq (sAsg (dCall 2 (g_law_draws) (aCons (dVar 0) (aCons (d2 addD (d2 addD (dN mkLst (aCons (dC (.int 5)) (aCons (dC (.int 8)) aNil))) (d2 mulD (dN mkLst (aCons (dC (.int 840)) aNil)) (dC (.int 16)))) (d2 mulD (dN mkLst (aCons (dC (.int 840)) aNil)) (dC (.int 16)))) aNil))) (dName 1))
 (sSeq (sAsg (d2 addD (dC (.int 8)) (d2 ixD (dVar 1) (dC (.int 0)))) (dName 2))
 (sSeq (sAsg (dCall 1 (g_law_pairs) (aCons (dVar 2) aNil)) (dName 3))
 (sSeq (sAsgO (dLc (dRng1 (aCons (dVar 2) aNil)) (dName 10) dYes (dC (.int 0)) [10]) 4)
 (sSeq (sAsgO (dN mkLst aNil) 5)
 (sSeq (sAsgO (dN mkLst aNil) 6)
 (sSeq (sFor (dRng1 (aCons (d2 addD (dC (.int 9)) (d2 ixD (dVar 1) (dC (.int 1)))) aNil)) (dName 7)
 (sSeq (sAsg (d2 ixD (dVar 3) (d2 modD (d2 mulD (dN intD (aCons (d2 fdivD (d2 ixD (dVar 1) (d2 addD (dC (.int 2)) (dVar 7))) (dC (.int 60))) aNil)) (dC (.int 5))) (dN lenD (aCons (dVar 3) aNil)))) (dName 8))
 (sSeq (sAsg (d2 modD (dN intD (aCons (d2 fdivD (d2 ixD (dVar 1) (d2 addD (dC (.int 18)) (dVar 7))) (dC (.int 8))) aNil)) (d2 mulD (dC (.int 2)) (dVar 2))) (dName 9))
 (sIf (tDt blD (d2 eqD (d2 modD (dN intD (aCons (d2 ixD (dVar 1) (d2 addD (dC (.int 18)) (dVar 7))) aNil)) (dC (.int 8))) (dC (.int 0))))
 (sApp 5 (dLc (dRng1 (aCons (dVar 2) aNil)) (dName 10) (tDt blD (d2 eqD (dVar 10) (dVar 9))) (dVar 10) [10]))
 (sSeq (sApp 6 (dVar 8))
 (sSeq (sSetI 4 (d2 ixD (dVar 8) (dC (.int 0))) (peekF (dN maxD (aCons (d2 ixD (dVar 4) (d2 ixD (dVar 8) (dC (.int 0)))) (aCons (dCall 2 (g_law_worn) (aCons (dVar 6) (aCons (dVar 8) aNil))) aNil)))))
 (sSeq (sSetI 4 (d2 ixD (dVar 8) (dC (.int 1))) (peekF (dN maxD (aCons (d2 ixD (dVar 4) (d2 ixD (dVar 8) (dC (.int 1)))) (aCons (dCall 2 (g_law_worn) (aCons (dVar 6) (aCons (dVar 8) aNil))) aNil)))))
 (sApp 5 (dLc (dRng1 (aCons (dVar 2) aNil)) (dName 10) (dOrT (tDt blD (d2 inD (dVar 10) (dVar 8))) (tDt blD (d2 eqD (dVar 10) (dVar 9)))) (dVar 10) [10])))))))))
 (sFrz [4, 5] (sRet (dN mkTup (aCons (dVar 4) (aCons (dVar 5) aNil))))))))))))
def g_law_wide : PF := runG 10 (t_law_wide)

theorem at_all {α : Type} [Inhabited α] {P : α → Prop} {xs : List α} (h : ∀ x ∈ xs, P x) {k : Int} (h0 : 0 ≤ k) (h1 : k < (xs.length : Nat)) : P (at_ xs k) := h _ (at_mem h0 h1)
theorem DealOk_nil (caps : List Int) : True := trivial
theorem law_filled_spec {caps : List Int} {hs : List (List Int)} {m : Nat} (ok : PoolOk caps hs m) (hm : m ≤ 100) (ds : List Int) (k : Nat) (hk : k + hs.length ≤ ds.length) (share : Int) :
    ∃ dl : List (Option Pr), g_law_filled [.lst (iL caps), .lst (rowsL hs), .lst (iL ds), .int (k : Int), .int share] = some (.o (.lst (dl.map opD))) ∧ IsDeal caps hs dl ∧ ∀ q, some q ∈ dl → 0 < roomOf caps q := by
  unfold g_law_filled t_law_filled
  have h12 := ok.s12
  have hpm := ok.pm
  walk_at "zz"
  refine rng_then (C := fun o => ∃ dl : List (Option Pr), outW o = some (.o (.lst (dl.map opD))) ∧ IsDeal caps hs dl ∧ ∀ q, some q ∈ dl → 0 < roomOf caps q)
    (fun i g => ∃ (dl : List (Option Pr)) (k6 k7 k8 : Option Wd), g = [some (.v (.lst (iL caps))), some (.v (.lst (rowsL hs))), some (.v (.lst (iL ds))), some (.v (.int (k : Int))), some (.v (.int share)), some (.o (.lst (dl.map opD))), k6, k7, k8, none] ∧ dl.length = i ∧
      (∀ (p : Nat) (q : Pr), dl[p]? = some (some q) → q.1 < q.2 ∧ q.1 ∈ at_ hs p ∧ q.2 ∈ at_ hs p) ∧ ∀ q : Pr, some q ∈ dl → ((dl.count (some q) : Nat) : Int) ≤ roomOf caps q ∧ 0 < roomOf caps q) ?_ ?_ ?_ ?_
  · exact ⟨[], _, _, _, rfl, rfl, fun p q h => by simp at h, fun q h => by simp at h⟩
  · rintro i g ⟨dl, k6, k7, k8, rfl, _⟩
    rfl
  · rintro i g hi ⟨dl, k6, k7, k8, rfl, hlen, hh, hc⟩
    walk_at "zz"
    have ha := ok.asc (at_ hs i) (at_mem (by omega) (by omega))
    rewrite [dLc_filt prD]
    case hf => rfl
    case hi => walk_at "zz"; rw [held_spec ha h12]; rfl
    case hl => have := heldP_len caps (at_ hs i); have := ha.len; have : (at_ hs (i : Int)).length * (at_ hs (i : Int)).length ≤ 12 * 12 := Nat.mul_le_mul (by omega) (by omega); omega
    case h =>
      intro q hq
      refine ⟨_, dName_ok rfl, ?_, fun hT => ?_⟩
      · walk_at "zz"
        rw [worn_spec dl q (by omega), room_spec (held_in ha hq)]
        walk_at "zz"
        rfl
      · walk_at "zz"
        rfl
    generalize hfr : (heldP caps (at_ hs (i : Int))).filter (fun a => decide (((dl.count (some a) : Nat) : Int) < roomOf caps a)) = fr
    have hin : ∀ q ∈ fr, q ∈ heldP caps (at_ hs i) ∧ ((dl.count (some q) : Nat) : Int) < roomOf caps q := fun q hq => by
      rw [← hfr, List.mem_filter] at hq
      exact ⟨hq.1, of_decide_eq_true hq.2⟩
    walk_at "zz"
    refine if_end (C := fun o => StepTo o _) (fun e => ?_) (fun e => ?_)
    · rw [Bool.and_eq_true, decide_eq_true_iff] at e
      have hpos : (0 : Int) < (fr.length : Nat) := e.1
      have hb1 : 0 ≤ at_ ds ((k : Int) + (i : Int)) / 4 % ((fr.length : Nat) : Int) := Int.emod_nonneg _ (by omega)
      have hb2 : at_ ds ((k : Int) + (i : Int)) / 4 % ((fr.length : Nat) : Int) < ((fr.length : Nat) : Int) := Int.emod_lt_of_pos _ hpos
      walk_at "zz"
      generalize at_ ds ((k : Int) + (i : Int)) / 4 % ((fr.length : Nat) : Int) = j at hb1 hb2 ⊢
      have hq := hin _ (at_mem (xs := fr) hb1 hb2)
      generalize at_ fr j = q at hq ⊢
      have hq1 := (heldP_mem ha q).mp hq.1
      refine step_nx ⟨_, _, _, _, rfl, by simp [hlen], fun p q' hp => ?_, fun q' hq' => ?_⟩
      · by_cases h : p < dl.length
        · rw [List.getElem?_append_left h] at hp
          exact hh p q' hp
        · rw [List.getElem?_append_right (by omega)] at hp
          have hp0 : p = i := by
            by_cases h0 : p - dl.length = 0
            · omega
            · rw [List.getElem?_eq_none (by simp; omega)] at hp; cases hp
          subst hp0
          rw [hlen, Nat.sub_self] at hp
          cases hp
          exact ⟨hq1.2.2.1, hq1.1, hq1.2.1⟩
      · rw [List.count_append]
        by_cases h : q' = q
        · subst h
          rw [show ([some q'] : List (Option Pr)).count (some q') = 1 from by simp]
          exact ⟨by have := hq.2; omega, hq1.2.2.2⟩
        · rw [show ([some q] : List (Option Pr)).count (some q') = 0 from List.count_eq_zero.mpr (by simp [h])]
          rcases List.mem_append.mp hq' with z | z
          · exact hc q' z
          · simp [h] at z
    · walk_at "zz"
      refine step_nx ⟨_, _, _, _, rfl, by simp [hlen], fun p q' hp => ?_, fun q' hq' => ?_⟩
      · by_cases h : p < dl.length
        · rw [List.getElem?_append_left h] at hp
          exact hh p q' hp
        · rw [List.getElem?_append_right (by omega)] at hp
          by_cases h0 : p - dl.length = 0
          · rw [h0] at hp; cases hp
          · rw [List.getElem?_eq_none (by simp; omega)] at hp; cases hp
      · rw [List.count_append, show ([none] : List (Option Pr)).count (some q') = 0 from List.count_eq_zero.mpr (by simp)]
        rcases List.mem_append.mp hq' with z | z
        · exact hc q' z
        · simp at z
  · rintro g ⟨dl, k6, k7, k8, rfl, hlen, hh, hc⟩
    walk_at "zz"
    exact ⟨dl, rfl, ⟨hlen, hh, fun q hq => (hc q hq).1⟩, fun q hq => (hc q hq).2⟩
/-! ### rich pools -/
def rsz : List Int := [4, 4, 4, 4, 4, 4, 4, 8, 8, 8, 8, 8, 8, 8]
theorem rich_sizes : ap2 addD (ap2 addD (some (.lst [.int 4, .int 4])) (mulD (.lst [.int 4]) (.int 5))) (mulD (.lst [.int 8]) (.int 7)) = some (.lst (iL rsz)) := rfl
theorem rich_spec (c : Int) : ∃ caps hs, g_law_rich [.int c] = some (.v (.tup [.lst (iL caps), .lst (rowsL hs)])) ∧ PoolOk caps hs 8 := by
  unfold g_law_rich t_law_rich
  walk_at "zs"
  rw [rich_sizes]
  obtain ⟨w, e, ds, rfl, hb⟩ := draws_spec c rsz (by decide) (by decide)
  have hl := hb.len
  rw [show rsz.length = 14 from rfl] at hl
  walk_at "zs"
  rw [e]
  have b0 := hb.at (k := 0) 4 (by decide) rfl
  have b1 := hb.at (k := 1) 4 (by decide) rfl
  walk_at "zz"
  have hn := at_mem (xs := ([3, 3, 4, 5] : List Int)) b0.1 b0.2
  generalize at_ ([3, 3, 4, 5] : List Int) (at_ ds 0) = n at hn ⊢
  obtain ⟨n, rfl⟩ : ∃ m : Nat, n = (m : Int) := ⟨n.toNat, by simp only [List.mem_cons, List.not_mem_nil, or_false] at hn; omega⟩
  have hn5 : 3 ≤ n ∧ n ≤ 5 := by simp only [List.mem_cons, List.not_mem_nil, or_false] at hn; omega
  have hd : ∀ i : Nat, i < 5 → 0 ≤ at_ ds (2 + (i : Int)) ∧ at_ ds (2 + (i : Int)) < 4 := fun i hi => hb.at 4 (by omega) (by
    rw [show (2 + (i : Int)).toNat = i + 2 by omega]
    match i, hi with
    | 0, _ => rfl
    | 1, _ => rfl
    | 2, _ => rfl
    | 3, _ => rfl
    | 4, _ => rfl)
  rewrite [dLc_rngM (n := n)]
  case hf => rfl
  case hi => walk_at "zz"
  case hl => omega
  case h =>
    intro i hi
    refine ⟨_, dName_ok rfl, ?_⟩
    have := hd i (by omega)
    walk_at "zz"
    rfl
  rw [map_int]
  generalize hcaps : (List.range n).map (fun i : Nat => at_ ([1, 1, 2, 2] : List Int) (at_ ds (2 + (i : Int)))) = caps
  have hc : caps.length = n := by rw [← hcaps, List.length_map, List.length_range]
  have hc0 : ∀ x ∈ caps, 0 ≤ x ∧ x < 10 ^ 60 := fun x hx => by
    rw [← hcaps, List.mem_map] at hx
    obtain ⟨i, hi, rfl⟩ := hx
    have hb := hd i (by have := List.mem_range.mp hi; omega)
    have := at_mem (xs := ([1, 1, 2, 2] : List Int)) hb.1 hb.2
    generalize at_ ([1, 1, 2, 2] : List Int) (at_ ds (2 + (i : Int))) = y at this ⊢
    simp only [List.mem_cons, List.not_mem_nil, or_false] at this
    omega
  obtain ⟨m, hm⟩ : ∃ m : Nat, 4 + at_ ds 1 = (m : Int) := ⟨(4 + at_ ds 1).toNat, by omega⟩
  walk_at "zz"
  rw [hm]
  walk_at "zz"
  refine rng_then (C := fun o => ∃ caps hs, outW o = some (.v (.tup [.lst (iL caps), .lst (rowsL hs)])) ∧ PoolOk caps hs 8)
    (fun i g => ∃ (hs : List (List Int)) (k5 k6 : Option Wd), g = [some (.v (.int c)), some (.v (.lst (iL ds))), some (.v (.int (n : Int))), some (.v (.lst (iL caps))), some (.o (.lst (rowsL hs))), k5, k6, none] ∧ hs.length = i ∧ ∀ h ∈ hs, Asc n h) ?_ ?_ ?_ ?_
  · exact ⟨[], _, _, rfl, rfl, fun h z => by cases z⟩
  · rintro i g ⟨hs, k5, k6, rfl, _⟩
    rfl
  · rintro i g hi ⟨hs, k5, k6, rfl, hlen, hasc⟩
    walk_at "zz"
    rewrite [dLc_rng (n := n)]
    case hf => cases k5 <;> cases k6 <;> rfl
    case hi => walk_at "zz"
    case hl => omega
    case h =>
      intro j hj
      refine ⟨_, dName_ok rfl, ?_, fun hT => ?_⟩
      · walk_at "zf"
      · walk_at "zf"
    rw [pickI_iL]
    walk_at "zz"
    refine step_nx ⟨_, _, _, rfl, by simp [hlen], fun h hh => ?_⟩
    rcases List.mem_append.mp hh with z | z
    · exact hasc h z
    · rw [List.mem_singleton.mp z]; exact pickI_asc _ _
  · rintro g ⟨hs, k5, k6, rfl, hlen, hasc⟩
    walk_at "zz"
    exact ⟨caps, hs, rfl, by omega, by omega, hc0, by omega, by rw [hc]; exact hasc⟩
/-! ### pools with many seats -/
theorem snoc_get {α : Type} {xs : List α} {x y : α} {p : Nat} (h : (xs ++ [x])[p]? = some y) : xs[p]? = some y ∨ (p = xs.length ∧ y = x) := by
  by_cases hp : p < xs.length
  · rw [List.getElem?_append_left hp] at h; exact .inl h
  · rw [List.getElem?_append_right (by omega)] at h
    by_cases h0 : p - xs.length = 0
    · rw [h0] at h
      cases h
      exact .inr ⟨by omega, rfl⟩
    · rw [List.getElem?_eq_none (by simp; omega)] at h; cases h
theorem at_snoc_l {α : Type} [Inhabited α] {xs : List α} {x : α} {p : Nat} (h : p < xs.length) : at_ (xs ++ [x]) (p : Int) = at_ xs p := by
  unfold at_
  rw [Int.toNat_natCast, List.getElem?_append_left h]
theorem at_snoc_r {α : Type} [Inhabited α] {xs : List α} {x : α} : at_ (xs ++ [x]) (xs.length : Int) = x := by
  unfold at_
  rw [Int.toNat_natCast, List.getElem?_append_right (Nat.le_refl _), Nat.sub_self]
  rfl
theorem IsDeal.snoc {caps caps' : List Int} {hs : List (List Int)} {dl : List (Option Pr)} (d : IsDeal caps hs dl) (hc : ∀ q, some q ∈ dl → roomOf caps q ≤ roomOf caps' q) (o : Option Pr) (h : List Int)
    (ho : ∀ q, o = some q → q.1 < q.2 ∧ q.1 ∈ h ∧ q.2 ∈ h ∧ ((dl.count (some q) : Nat) : Int) + 1 ≤ roomOf caps' q) : IsDeal caps' (hs ++ [h]) (dl ++ [o]) where
  len := by rw [List.length_append, List.length_append, d.len]; rfl
  held := fun p q e => by
    rcases snoc_get e with z | ⟨hp, z⟩
    · have hp : p < dl.length := (List.getElem?_eq_some_iff.mp z).1
      rw [at_snoc_l (by rw [← d.len]; exact hp)]
      exact d.held p q z
    · have := ho q z.symm
      rw [hp, d.len, at_snoc_r]
      exact ⟨this.1, this.2.1, this.2.2.1⟩
  room := fun q hq => by
    rw [List.count_append]
    by_cases h : o = some q
    · subst h
      rw [show ([some q] : List (Option Pr)).count (some q) = 1 from by simp]
      have := (ho q rfl).2.2.2
      omega
    · rw [show ([o] : List (Option Pr)).count (some q) = 0 from List.count_eq_zero.mpr (by simp [Ne.symm h])]
      rcases List.mem_append.mp hq with z | z
      · have := d.room q z
        have := hc q z
        omega
      · exact absurd (List.mem_singleton.mp z).symm h
theorem capAt_set {caps : List Int} {j k x : Int} (h0 : 0 ≤ j) (h1 : j < (caps.length : Nat)) (hk : 0 ≤ k) : capAt (caps.set j.toNat x) k = if k = j then x else capAt caps k := by
  unfold capAt
  by_cases h : k = j
  · subst h
    rw [if_pos rfl, List.getElem?_set_self (by omega)]
    rfl
  · rw [if_neg h, List.getElem?_set_ne (by omega)]
theorem worn_specP (xs : List Pr) (q : Pr) (hl : xs.length ≤ 1000) : g_law_worn [.lst (xs.map prD), prD q] = some (.v (.int ((xs.count q : Nat) : Int))) := by
  have e := worn_spec (xs.map some) q (by rw [List.length_map]; exact hl)
  rw [List.map_map] at e
  have ec : ∀ xs : List Pr, (xs.map some).count (some q) = xs.count q := fun xs => by
    induction xs with
    | nil => rfl
    | cons a xs ih =>
      rw [List.map_cons, List.count_cons, List.count_cons, ih]
      congr 1
  rw [show xs.map prD = xs.map (opD ∘ some) from rfl, e, ec]
theorem in_prD {q : Pr} {k : Int} : inD (.int k) (prD q) = some (.bl ([q.1, q.2].contains k)) := in_pr
theorem pick_eq_len (n : Nat) (x : Int) : (pickI n fun k => (k : Int) == x).length ≤ 1 := by
  have ha := pickI_asc n fun k => (k : Int) == x
  generalize hl : pickI n (fun k => (k : Int) == x) = l at ha ⊢
  match l, hl, ha with
  | [], _, _ => exact Nat.zero_le _
  | [a], _, _ => exact Nat.le_refl _
  | a :: b :: r, hl, ha =>
    have h1 : a ∈ pickI n (fun k => (k : Int) == x) := by rw [hl]; simp
    have h2 : b ∈ pickI n (fun k => (k : Int) == x) := by rw [hl]; simp
    obtain ⟨i, rfl, _, e1⟩ := pickI_mem.mp h1
    obtain ⟨j, rfl, _, e2⟩ := pickI_mem.mp h2
    have := (List.pairwise_cons.mp ha.1).1 _ List.mem_cons_self
    simp at e1 e2
    omega
theorem two_len {n : Nat} {l : List Int} (ha : Asc n l) {a b : Int} (h1 : a ∈ l) (h2 : b ∈ l) (h : a < b) : 2 ≤ l.length := by
  match l, h1, h2 with
  | [], h1, _ => cases h1
  | [c], h1, h2 => simp at h1 h2; omega
  | c :: d :: r, _, _ => simp
def wdz : List Int := [5, 8] ++ List.replicate 16 840 ++ List.replicate 16 840
theorem wide_sizes2 : ap2 addD (ap2 addD (some (.lst [.int 5, .int 8])) (mulD (.lst [.int 840]) (.int 16))) (mulD (.lst [.int 840]) (.int 16)) = some (.lst (iL wdz)) := rfl
theorem wdz_at {j : Nat} (h : j < 32) : wdz[j + 2]? = some 840 := by
  have : ∀ j : Fin 32, wdz[j.val + 2]? = some 840 := by decide
  exact this ⟨j, h⟩
theorem law_wide_spec (c : Int) : ∃ caps hs, g_law_wide [.int c] = some (.v (.tup [.lst (iL caps), .lst (rowsL hs)])) ∧ PoolOk caps hs 16 ∧ ∃ dl : List (Option Pr), IsDeal caps hs dl ∧ ∀ (p : Nat) (h : List Int), hs[p]? = some h → (dl[p]? = some none ↔ h.length ≤ 1) := by
  unfold g_law_wide t_law_wide
  walk_at "zs"
  rw [wide_sizes2]
  obtain ⟨w, e, ds, rfl, hb⟩ := draws_spec c wdz (by decide) (by decide)
  have hl := hb.len
  rw [show wdz.length = 34 from rfl] at hl
  walk_at "zs"
  rw [e]
  have b0 := hb.at (k := 0) 5 (by decide) rfl
  have b1 := hb.at (k := 1) 8 (by decide) rfl
  have bj : ∀ j : Int, 2 ≤ j → j < 34 → 0 ≤ at_ ds j ∧ at_ ds j < 840 := fun j h0 h1 => hb.at 840 (by omega) (by
    have := wdz_at (j := (j - 2).toNat) (by omega)
    rw [show (j - 2).toNat + 2 = j.toNat by omega] at this
    exact this)
  walk_at "zz"
  obtain ⟨n, hn⟩ : ∃ m : Nat, 8 + at_ ds 0 = (m : Int) := ⟨(8 + at_ ds 0).toNat, by omega⟩
  rw [hn]
  have hn12 : 8 ≤ n ∧ n ≤ 12 := by omega
  rw [pairs_spec n (by omega)]
  walk_at "zz"
  obtain ⟨ps, hps, hpm⟩ := pairsL_prD n
  rw [hps]
  have hpos : (0 : Int) < ((ps.length : Nat) : Int) := by
    have : ((0 : Int), (1 : Int)) ∈ ps := (hpm _).mpr ⟨by decide, by decide, by show (1 : Int) < n; omega⟩
    have := List.length_pos_of_mem this
    omega
  rewrite [dLc_rngM (n := n)]
  case hf => rfl
  case hi => walk_at "zf"
  case hl => omega
  case h =>
    intro i hi
    refine ⟨_, dName_ok rfl, ?_⟩
    walk_at "zf"
  rw [map_int]
  generalize hcaps : (List.range n).map (fun i : Nat => (0 : Int)) = caps
  have hc : caps.length = n := by rw [← hcaps, List.length_map, List.length_range]
  have hc0 : ∀ x ∈ caps, 0 ≤ x ∧ x < 10 ^ 60 := fun x hx => by
    rw [← hcaps, List.mem_map] at hx
    obtain ⟨i, hi, rfl⟩ := hx
    decide
  obtain ⟨m, hm⟩ : ∃ m : Nat, 9 + at_ ds 1 = (m : Int) := ⟨(9 + at_ ds 1).toNat, by omega⟩
  walk_at "zz"
  rw [hm]
  walk_at "zz"
  refine rng_then (C := fun o => ∃ caps hs, outW o = some (.v (.tup [.lst (iL caps), .lst (rowsL hs)])) ∧ PoolOk caps hs 16 ∧ ∃ dl : List (Option Pr), IsDeal caps hs dl ∧ ∀ (p : Nat) (h : List Int), hs[p]? = some h → (dl[p]? = some none ↔ h.length ≤ 1))
    (fun i g => ∃ (caps : List Int) (hs : List (List Int)) (dl : List (Option Pr)) (dealt : List Pr) (k7 k8 k9 : Option Wd), g = [some (.v (.int c)), some (.v (.lst (iL ds))), some (.v (.int (n : Int))), some (.v (.lst (ps.map prD))), some (.o (.lst (iL caps))), some (.o (.lst (rowsL hs))), some (.o (.lst (dealt.map prD))), k7, k8, k9, none] ∧
      hs.length = i ∧ (∀ h ∈ hs, Asc n h) ∧ caps.length = n ∧ (∀ x ∈ caps, 0 ≤ x ∧ x < 10 ^ 60) ∧ dealt.length ≤ i ∧ (∀ q, dealt.count q = dl.count (some q)) ∧ IsDeal caps hs dl ∧ ∀ (p : Nat) (h : List Int), hs[p]? = some h → (dl[p]? = some none ↔ h.length ≤ 1)) ?_ ?_ ?_ ?_
  · exact ⟨caps, [], [], [], _, _, _, rfl, rfl, fun h z => (by cases z), hc, hc0, Nat.le_refl _, fun q => rfl, ⟨rfl, fun p q h => by simp at h, fun q h => by simp at h⟩, fun p h z => by simp at z⟩
  · rintro i g ⟨caps, hs, dl, dealt, k7, k8, k9, rfl, _⟩
    rfl
  · rintro i g hi ⟨caps, hs, dl, dealt, k7, k8, k9, rfl, hlen, hasc, hcl, hc0, hdl, hcount, hdeal, hnone⟩
    have b2 := bj (2 + (i : Int)) (by omega) (by omega)
    have b18 := bj (18 + (i : Int)) (by omega) (by omega)
    walk_at "zz"
    have hj1 : 0 ≤ at_ ds (2 + (i : Int)) / 60 * 5 % ((ps.length : Nat) : Int) := Int.emod_nonneg _ (by omega)
    have hj2 : at_ ds (2 + (i : Int)) / 60 * 5 % ((ps.length : Nat) : Int) < ((ps.length : Nat) : Int) := Int.emod_lt_of_pos _ hpos
    walk_at "zz"
    have hq := (hpm _).mp (at_mem (xs := ps) hj1 hj2)
    generalize at_ ps (at_ ds (2 + (i : Int)) / 60 * 5 % ((ps.length : Nat) : Int)) = q at hq ⊢
    generalize at_ ds (18 + (i : Int)) / 8 % (2 * (n : Int)) = x
    have hll : hs.length = dl.length := hdeal.len.symm
    refine if_end (C := fun o => StepTo o _) (fun e => ?_) (fun e => ?_)
    · walk_at "zz"
      rewrite [dLc_rng (n := n)]
      case hf => cases k7 <;> cases k8 <;> cases k9 <;> rfl
      case hi => walk_at "zf"
      case hl => omega
      case h =>
        intro j hj
        refine ⟨_, dName_ok rfl, ?_, fun hT => ?_⟩
        · walk_at "zf"
        · walk_at "zf"
      rw [pickI_iL]
      walk_at "zz"
      refine step_nx ⟨caps, _, dl ++ [none], dealt, _, _, _, rfl, by simp [hlen], fun h hh => ?_, hcl, hc0, by omega, fun q => ?_, hdeal.snoc (fun _ _ => Int.le_refl _) _ _ (fun q h => by cases h), fun p h hp => ?_⟩
      · rcases List.mem_append.mp hh with z | z
        · exact hasc h z
        · rw [List.mem_singleton.mp z]; exact pickI_asc _ _
      · rw [List.count_append, hcount q, show ([none] : List (Option Pr)).count (some q) = 0 from List.count_eq_zero.mpr (by simp)]
        rfl
      · rcases snoc_get hp with z | ⟨z1, z2⟩
        · rw [List.getElem?_append_left (by have := (List.getElem?_eq_some_iff.mp z).1; omega)]
          exact hnone p h z
        · rw [z1, hll, List.getElem?_append_right (Nat.le_refl _), Nat.sub_self, z2]
          exact ⟨fun _ => pick_eq_len _ _, fun _ => rfl⟩
    · walk_at "zz"
      rw [worn_specP _ _ (by rw [List.length_append]; exact Nat.le_trans (Nat.add_le_add_right hdl 1) (by omega))]
      walk_at "zz"
      rw [worn_specP _ _ (by rw [List.length_append]; exact Nat.le_trans (Nat.add_le_add_right hdl 1) (by omega))]
      have hcn : (dealt ++ [q]).count q = dl.count (some q) + 1 := by rw [List.count_append, hcount q]; simp
      have hcb : (dealt ++ [q]).count q ≤ i + 1 := Nat.le_trans List.count_le_length (by rw [List.length_append]; exact Nat.add_le_add_right hdl 1)
      generalize hcq : (dealt ++ [q]).count q = cq at hcn hcb ⊢
      have e1 : at_ caps q.1 = capAt caps q.1 := rfl
      rw [e1]
      generalize hc1 : caps.set q.1.toNat (if (cq : Int) > capAt caps q.1 then (cq : Int) else capAt caps q.1) = caps1
      have hl1 : caps1.length = n := by rw [← hc1, List.length_set]; exact hcl
      have ec1 : ∀ k : Int, 0 ≤ k → capAt caps1 k = if k = q.1 then (if (cq : Int) > capAt caps q.1 then (cq : Int) else capAt caps q.1) else capAt caps k := fun k hk => by
        rw [← hc1]; exact capAt_set hq.1 (by omega) hk
      walk_at "zz"
      have e2 : at_ caps1 q.2 = capAt caps1 q.2 := rfl
      rw [e2]
      generalize hc2 : caps1.set q.2.toNat (if (cq : Int) > capAt caps1 q.2 then (cq : Int) else capAt caps1 q.2) = caps2
      have hl2 : caps2.length = n := by rw [← hc2, List.length_set]; exact hl1
      have ec2 : ∀ k : Int, 0 ≤ k → capAt caps2 k = if k = q.2 then (if (cq : Int) > capAt caps1 q.2 then (cq : Int) else capAt caps1 q.2) else capAt caps1 k := fun k hk => by
        rw [← hc2]; exact capAt_set (by omega) (by omega) hk
      have hmono : ∀ k : Int, 0 ≤ k → capAt caps k ≤ capAt caps2 k := fun k hk => by
        have h1 := ec1 k hk
        have h2 := ec2 k hk
        have h3 := ec1 q.2 (by omega)
        rw [h2]
        split
        · rename_i hh
          subst hh
          rw [h1]
          split <;> split <;> omega
        · rw [h1]
          split
          · rename_i hh
            subst hh
            split <;> omega
          · exact Int.le_refl _
      rewrite [dLc_rng (n := n)]
      case hf => cases k7 <;> cases k8 <;> cases k9 <;> rfl
      case hi => walk_at "zf"
      case hl => omega
      case h =>
        intro j hj
        refine ⟨_, dName_ok rfl, ?_, fun hT => ?_⟩
        · walk_at "zz"
          rw [in_prD]
          walk_at "zf"
        · walk_at "zf"
      rw [pickI_iL]
      walk_at "zz"
      have hm1 : q.1 ∈ pickI n fun k => [q.1, q.2].contains (k : Int) || (k : Int) == x := pickI_mem.mpr ⟨q.1.toNat, by omega, by omega, by rw [show ((q.1.toNat : Nat) : Int) = q.1 by omega]; simp⟩
      have hm2 : q.2 ∈ pickI n fun k => [q.1, q.2].contains (k : Int) || (k : Int) == x := pickI_mem.mpr ⟨q.2.toNat, by omega, by omega, by rw [show ((q.2.toNat : Nat) : Int) = q.2 by omega]; simp⟩
      have hasc2 := pickI_asc n fun k => [q.1, q.2].contains (k : Int) || (k : Int) == x
      generalize (pickI n fun k => [q.1, q.2].contains (k : Int) || (k : Int) == x) = row at hm1 hm2 hasc2 ⊢
      refine step_nx ⟨caps2, _, dl ++ [some q], dealt ++ [q], _, _, _, rfl, by simp [hlen], fun h hh => ?_, hl2, fun y hy => ?_, by simp; omega, fun q' => ?_, hdeal.snoc (caps' := caps2) (fun q' hq' => ?_) _ _ (fun q' h => ?_), fun p h hp => ?_⟩
      · rcases List.mem_append.mp hh with z | z
        · exact hasc h z
        · rw [List.mem_singleton.mp z]; exact hasc2
      · have hb1 : ∀ y ∈ caps1, 0 ≤ y ∧ y < 10 ^ 60 := fun y hy => by
          rw [← hc1] at hy
          rcases List.mem_or_eq_of_mem_set hy with z | z
          · exact hc0 y z
          · rw [z]
            split
            · omega
            · exact hc0 _ (at_mem (xs := caps) hq.1 (by omega))
        rw [← hc2] at hy
        rcases List.mem_or_eq_of_mem_set hy with z | z
        · exact hb1 y z
        · rw [z]
          split
          · omega
          · exact hb1 _ (at_mem (xs := caps1) (by omega) (by omega))
      · rw [List.count_append, List.count_append, hcount q']
        congr 1
      · obtain ⟨p, hp⟩ := List.mem_iff_getElem?.mp hq'
        have hp1 : p < dl.length := (List.getElem?_eq_some_iff.mp hp).1
        have h2 := hdeal.held p q' hp
        have ha := hasc _ (at_mem (xs := hs) (k := (p : Int)) (by omega) (by omega))
        have m1 := hmono q'.1 (ha.2 _ h2.2.1).1
        have m2 := hmono q'.2 (ha.2 _ h2.2.2).1
        unfold roomOf
        split <;> split <;> omega
      · cases h
        refine ⟨hq.2.1, hm1, hm2, ?_⟩
        have a1 := ec2 q.1 hq.1
        have a2 := ec2 q.2 (by omega)
        have a3 := ec1 q.1 hq.1
        rw [if_neg (by omega)] at a1
        rw [if_pos rfl] at a2 a3
        unfold roomOf
        rw [a1, a2, a3]
        split <;> (try split) <;> (try split) <;> omega
      · rcases snoc_get hp with z | ⟨z1, z2⟩
        · rw [List.getElem?_append_left (by have := (List.getElem?_eq_some_iff.mp z).1; omega)]
          exact hnone p h z
        · rw [z1, hll, List.getElem?_append_right (Nat.le_refl _), Nat.sub_self, z2]
          have := two_len hasc2 hm1 hm2 hq.2.1
          exact ⟨fun h => (by cases h), fun h => (by omega)⟩
  · rintro g ⟨caps, hs, dl, dealt, k7, k8, k9, rfl, hlen, hasc, hcl, hc0, hdl, hcount, hdeal, hnone⟩
    walk_at "zz"
    exact ⟨caps, hs, rfl, ⟨by omega, by omega, hc0, by omega, by rw [hcl]; exact hasc⟩, dl, hdeal, hnone⟩
end Zc
end

section
set_option Elab.async false
set_option linter.all false
set_option maxRecDepth 100000
set_option maxHeartbeats 2000000
/-! Walks as the laws count them, taken. -/
namespace Zc
open PySem L2 Zk
theorem ix_map {α : Type} {f : α → D} {xs : List α} {m : Nat} {a : α} (h : xs[m]? = some a) : ixD (.lst (xs.map f)) (.int (m : Int)) = some (f a) := ix_l (by rw [List.getElem?_map, h]; rfl)
theorem ix_st0 {s : Int × Pr} : ixD (stD s) (.int 0) = some (.int s.1) := rfl
theorem ix_st1 {s : Int × Pr} : ixD (stD s) (.int 1) = some (prD s.2) := rfl
abbrev Steps := List (Int × Pr)
def StepOk (caps : List Int) (hs : List (List Int)) (dl : List (Option Pr)) (l : Option Pr) (u : List Int) (s : Int × Pr) : Prop :=
  (0 ≤ s.1 ∧ s.1 < (hs.length : Nat)) ∧ s.1 ∉ u ∧ dl[s.1.toNat]? = some l ∧ s.2 ∈ heldP caps (hs[s.1.toNat]?.getD []) ∧ some s.2 ≠ l
instance {caps : List Int} {hs : List (List Int)} {dl : List (Option Pr)} {l : Option Pr} {u : List Int} {s : Int × Pr} : Decidable (StepOk caps hs dl l u s) := by unfold StepOk; exact inferInstance
def walkB (caps : List Int) (hs : List (List Int)) (dl : List (Option Pr)) : Option Pr → List Int → Steps → Option (Option Pr)
  | l, _, [] => some l
  | l, u, s :: r => if StepOk caps hs dl l u s then walkB caps hs dl (some s.2) (u ++ [s.1]) r else none
def dueB (caps : List Int) (hs : List (List Int)) (dl : List (Option Pr)) (sts : Steps) : Bool := match walkB caps hs dl none [] sts with
  | some (some q) => decide (((dl.count (some q) : Nat) : Int) < roomOf caps q)
  | _ => false
def leftAt (sts : Steps) : Nat → Option Pr
  | 0 => none
  | i + 1 => (sts[i]?).map (·.2)
theorem leftAt_s {sts : Steps} {i : Nat} : leftAt sts (i + 1) = (sts[i]?).map (·.2) := rfl


structure DealOk (caps : List Int) (hs : List (List Int)) (dl : List (Option Pr)) : Prop where
  len : dl.length = hs.length
  held : ∀ (p : Nat) (q : Pr), dl[p]? = some (some q) → ∃ h, hs[p]? = some h ∧ q ∈ heldP caps h
  room : ∀ q : Pr, dl.count (some q) = 0 ∨ ((dl.count (some q) : Nat) : Int) ≤ roomOf caps q
theorem walkB_no {caps : List Int} {hs : List (List Int)} {dl : List (Option Pr)} {l : Option Pr} {u : List Int} {s : Int × Pr} {r : Steps} (h : ¬ StepOk caps hs dl l u s) : walkB caps hs dl l u (s :: r) = none := if_neg h
theorem walkB_yes {caps : List Int} {hs : List (List Int)} {dl : List (Option Pr)} {l : Option Pr} {u : List Int} {s : Int × Pr} {r : Steps} (h : StepOk caps hs dl l u s) : walkB caps hs dl l u (s :: r) = walkB caps hs dl (some s.2) (u ++ [s.1]) r := if_pos h
theorem due_none {caps : List Int} {hs : List (List Int)} {dl : List (Option Pr)} {sts : Steps} (h : walkB caps hs dl none [] sts = none) : dueB caps hs dl sts = false := by unfold dueB; rw [h]
theorem walkB_mem {caps : List Int} {hs : List (List Int)} {dl : List (Option Pr)} : ∀ {sts : Steps} {l : Option Pr} {u : List Int} {r : Option Pr}, walkB caps hs dl l u sts = some r →
    ∀ s ∈ sts, ∃ (p : Nat) (h : List Int), s.1 = (p : Int) ∧ hs[p]? = some h ∧ s.2 ∈ heldP caps h
  | [], _, _, _, _, s, hs' => by cases hs'
  | t :: sts, l, u, r, hw, s, hs' => by
    by_cases h : StepOk caps hs dl l u t
    · rw [walkB_yes h] at hw
      rcases List.mem_cons.mp hs' with rfl | z
      · obtain ⟨⟨a1, a2⟩, a3, a4, a5, a6⟩ := h
        refine ⟨s.1.toNat, hs[s.1.toNat]'(by omega), by omega, List.getElem?_eq_getElem (by omega), ?_⟩
        rw [List.getElem?_eq_getElem (by omega)] at a5
        exact a5
      · exact walkB_mem hw s z
    · rw [walkB_no h] at hw; cases hw
theorem walkB_in {caps : List Int} {hs : List (List Int)} {dl : List (Option Pr)} {m : Nat} (ok : PoolOk caps hs m) {sts : Steps} {l : Option Pr} {u : List Int} {r : Option Pr} (hw : walkB caps hs dl l u sts = some r) {s : Int × Pr} (h : s ∈ sts) : InR caps s.2 := by
  obtain ⟨p, h, _, h1, h2⟩ := walkB_mem hw s h
  exact held_in (ok.asc h (List.mem_of_getElem? h1)) h2
def putAll (dl : List (Option Pr)) (sts : Steps) : List (Option Pr) := sts.foldl (fun d s => d.set s.1.toNat (some s.2)) dl
theorem putAll_nil {dl : List (Option Pr)} : putAll dl [] = dl := rfl
theorem putAll_cons {dl : List (Option Pr)} {s : Int × Pr} {r : Steps} : putAll dl (s :: r) = putAll (dl.set s.1.toNat (some s.2)) r := rfl
theorem putAll_len : ∀ (sts : Steps) (dl : List (Option Pr)), (putAll dl sts).length = dl.length
  | [], _ => rfl
  | s :: r, dl => by rw [putAll_cons, putAll_len r, List.length_set]
def one (a b : Option Pr) : Nat := if a = b then 1 else 0
theorem count_put {dl : List (Option Pr)} {p : Nat} {l : Option Pr} (h : dl[p]? = some l) (a b : Option Pr) : (dl.set p a).count b + one l b = dl.count b + one a b := by
  obtain ⟨hp, e⟩ := List.getElem?_eq_some_iff.mp h
  rw [List.count_set hp, e]
  have hc : one l b ≤ dl.count b := by
    unfold one
    split
    · rename_i z
      rw [← z]
      exact List.count_pos_iff.mpr (List.mem_of_getElem? h)
    · omega
  unfold one at hc ⊢
  simp only [beq_iff_eq]
  split <;> split <;> rename_i z1 z2 <;> simp only [z1, z2, if_true, if_false] at * <;> omega
section
variable {caps : List Int} {hs : List (List Int)} {dl : List (Option Pr)}
theorem walk_count (q : Option Pr) : ∀ {sts : Steps} {l : Option Pr} {u : List Int} {r : Option Pr} {cd : List (Option Pr)}, walkB caps hs dl l u sts = some r → (∀ p : Nat, (p : Int) ∉ u → cd[p]? = dl[p]?) →
    (putAll cd sts).count q + one l q = cd.count q + one r q
  | [], l, u, r, cd, hw, _ => by cases hw; rfl
  | s :: sts, l, u, r, cd, hw, hcd => by
    by_cases h : StepOk caps hs dl l u s
    · rw [walkB_yes h] at hw
      have hp : (s.1.toNat : Int) = s.1 := by have := h.1.1; omega
      have e : cd[s.1.toNat]? = some l := by rw [hcd _ (by rw [hp]; exact h.2.1)]; exact h.2.2.1
      have c := count_put e (some s.2) q
      have ih := walk_count q (cd := cd.set s.1.toNat (some s.2)) hw fun p hpu => by
        have hne : p ≠ s.1.toNat := fun z => hpu (by rw [z, hp]; simp)
        rw [List.getElem?_set_ne (Ne.symm hne)]
        exact hcd p fun z => hpu (List.mem_append_left _ z)
      rw [putAll_cons]
      omega
    · rw [walkB_no h] at hw; cases hw
theorem walk_held : ∀ {sts : Steps} {l : Option Pr} {u : List Int} {r : Option Pr} {cd : List (Option Pr)}, walkB caps hs dl l u sts = some r → (∀ (p : Nat) (q : Pr), cd[p]? = some (some q) → ∃ h, hs[p]? = some h ∧ q ∈ heldP caps h) →
    ∀ (p : Nat) (q : Pr), (putAll cd sts)[p]? = some (some q) → ∃ h, hs[p]? = some h ∧ q ∈ heldP caps h
  | [], _, _, _, _, _, hc => hc
  | s :: sts, l, u, r, cd, hw, hc => by
    have hm := walkB_mem hw s List.mem_cons_self
    by_cases h : StepOk caps hs dl l u s
    · rw [walkB_yes h] at hw
      rw [putAll_cons]
      refine walk_held hw fun p q e => ?_
      rw [List.getElem?_set] at e
      split at e
      · rename_i hp
        split at e
        · cases e
          obtain ⟨p', h', e1, e2, e3⟩ := hm
          exact ⟨h', by rw [← hp, show s.1.toNat = p' by omega]; exact e2, e3⟩
        · cases e
      · exact hc p q e
    · rw [walkB_no h] at hw; cases hw
/-- where the pieces of a walk stood -/
theorem walk_stood : ∀ {sts : Steps} {l : Option Pr} {u : List Int} {r : Option Pr}, walkB caps hs dl l u sts = some r → ∀ s ∈ sts, dl[s.1.toNat]? ≠ some none ∨ (l = none ∧ sts.head? = some s)
  | [], _, _, _, _, s, h => by cases h
  | t :: sts, l, u, r, hw, s, hs' => by
    by_cases h : StepOk caps hs dl l u t
    · rw [walkB_yes h] at hw
      rcases List.mem_cons.mp hs' with rfl | z
      · cases l with
        | none => exact .inr ⟨rfl, rfl⟩
        | some q => exact .inl (by rw [h.2.2.1]; simp)
      · rcases walk_stood hw s z with y | y
        · exact .inl y
        · exact absurd y.1 (by simp)
    · rw [walkB_no h] at hw; cases hw
theorem putAll_get : ∀ (sts : Steps) (cd : List (Option Pr)) (i : Nat), (∀ s ∈ sts, 0 ≤ s.1 ∧ s.1 < (cd.length : Nat)) → ((i : Int) ∈ sts.map (·.1) → ∃ q, (putAll cd sts)[i]? = some (some q)) ∧ ((i : Int) ∉ sts.map (·.1) → (putAll cd sts)[i]? = cd[i]?)
  | [], cd, i, _ => ⟨fun h => absurd h (by simp), fun _ => rfl⟩
  | s :: sts, cd, i, hr => by
    have h0 := hr s List.mem_cons_self
    have ih := putAll_get sts (cd.set s.1.toNat (some s.2)) i fun t ht => by rw [List.length_set]; exact hr t (List.mem_cons_of_mem _ ht)
    rw [putAll_cons]
    by_cases h : (i : Int) ∈ sts.map (·.1)
    · exact ⟨fun _ => ih.1 h, fun z => absurd (List.mem_cons_of_mem _ h) z⟩
    · rw [ih.2 h]
      refine ⟨fun z => ?_, fun z => ?_⟩
      · rcases List.mem_cons.mp z with y | y
        · have y' : (i : Int) = s.1 := y
          exact ⟨s.2, by rw [show s.1.toNat = i by omega]; exact List.getElem?_set_self (by omega)⟩
        · exact absurd y h
      · have hne : s.1.toNat ≠ i := fun y => z (by rw [List.map_cons]; exact List.mem_cons.mpr (.inl (by omega)))
        exact List.getElem?_set_ne hne
end
theorem filter_one {n p : Nat} (hp : p < n) {T : Nat → Bool} (h : ∀ i, i < n → (T i = true ↔ i = p)) : (List.range n).filter T = [p] := by
  induction n with
  | zero => omega
  | succ n ih =>
    rw [List.range_succ, List.filter_append]
    by_cases hn : n = p
    · have e1 : (List.range n).filter T = [] := List.filter_eq_nil_iff.mpr fun i hi => by
        rw [List.mem_range] at hi
        rw [h i (by omega)]
        omega
      rw [e1, List.filter_cons, if_pos ((h n (by omega)).mpr hn), hn]
      rfl
    · rw [ih (by omega) fun i hi => h i (by omega), List.filter_cons, if_neg (by rw [h n (by omega)]; exact hn)]
      rfl
theorem taken_ok {caps : List Int} {hs : List (List Int)} {dl : List (Option Pr)} (dk : DealOk caps hs dl) {sts : Steps} (hd : dueB caps hs dl sts = true) : DealOk caps hs (putAll dl sts) := by
  unfold dueB at hd
  split at hd
  · rename_i q hw
    have hlt := of_decide_eq_true hd
    refine ⟨by rw [putAll_len]; exact dk.len, walk_held hw dk.held, fun q' => ?_⟩
    have c := walk_count (some q') hw (cd := dl) fun p _ => rfl
    have e0 : one none (some q') = 0 := rfl
    rw [e0] at c
    by_cases hq : q = q'
    · subst hq
      have e1 : one (some q) (some q) = 1 := if_pos rfl
      rw [e1] at c
      exact .inr (by omega)
    · have e1 : one (some q) (some q') = 0 := if_neg (by simp [hq])
      rw [e1] at c
      rw [show (putAll dl sts).count (some q') = dl.count (some q') by omega]
      exact dk.room q'
  · cases hd
theorem DealOk.of {caps : List Int} {hs : List (List Int)} {m : Nat} (ok : PoolOk caps hs m) {dl : List (Option Pr)} (d : IsDeal caps hs dl) (hr : ∀ q, some q ∈ dl → 0 < roomOf caps q) : DealOk caps hs dl where
  len := d.len
  held p q e := by
    have hp : p < hs.length := by rw [← d.len]; exact (List.getElem?_eq_some_iff.mp e).1
    have h1 := d.held p q e
    have e2 : hs[p]? = some (at_ hs p) := by have := at_get (xs := hs) (k := (p : Int)) (by omega) (by omega); rw [Int.toNat_natCast] at this; exact this
    exact ⟨_, e2, (heldP_mem (ok.asc _ (List.mem_of_getElem? e2)) q).mpr ⟨h1.2.1, h1.2.2, h1.1, hr q (List.mem_of_getElem? e)⟩⟩
  room q := by
    by_cases h : some q ∈ dl
    · exact .inr (d.room q h)
    · exact .inl (List.count_eq_zero.mpr h)
theorem DealOk.isDeal {caps : List Int} {hs : List (List Int)} {m : Nat} (ok : PoolOk caps hs m) {dl : List (Option Pr)} (d : DealOk caps hs dl) : IsDeal caps hs dl where
  len := d.len
  held p q e := by
    obtain ⟨h, e2, h2⟩ := d.held p q e
    have := (heldP_mem (ok.asc _ (List.mem_of_getElem? e2)) q).mp h2
    rw [show at_ hs (p : Int) = h from at_eq rfl e2]
    exact ⟨this.2.2.1, this.1, this.2.1⟩
  room q hq := by
    rcases d.room q with h | h
    · exact absurd hq (List.count_eq_zero.mp h)
    · exact h
theorem putAll_snoc {dl : List (Option Pr)} {sts : Steps} {s : Int × Pr} : putAll dl (sts ++ [s]) = (putAll dl sts).set s.1.toNat (some s.2) := by unfold putAll; rw [List.foldl_append]; rfl
theorem take_succ {α : Type} {xs : List α} {i : Nat} {a : α} (h : xs[i]? = some a) : xs.take (i + 1) = xs.take i ++ [a] := by rw [List.take_add_one, h]; rfl
end Zc
end

section
set_option Elab.async false
set_option linter.all false
set_option maxRecDepth 100000
set_option maxHeartbeats 2000000
/-! The search for a walk: its tree, its waiting list, what stands when it fails. -/
namespace Zc
open PySem L2 Zk
/-! ### while -/
theorem while_go {t : DTF} {s : SF} (R : Wd → Prop) (N : Nat) (I : Nat → Gm → Prop) (hs : ∀ i g, I i g → ∃ b, t g = some b ∧ (b = true → i < N ∧ Turn (s g) (I (i + 1)) R (fun _ => False))) :
    ∀ (n i : Nat) (g : Gm), I i g → i ≤ N → N < i + n → (∃ j g', whileD t s n g = some (.nx g') ∧ I j g' ∧ t g' = some false) ∨ ∃ w, whileD t s n g = some (.rt w) ∧ R w
  | 0, i, g, h, h1, h2 => by omega
  | n + 1, i, g, h, h1, h2 => by
    obtain ⟨b, e, hb⟩ := hs i g h
    unfold whileD
    rw [e, Option.bind_some]
    cases b with
    | false => exact .inl ⟨i, g, rfl, h, e⟩
    | true =>
      rw [if_pos rfl]
      obtain ⟨hi, T⟩ := hb rfl
      rcases T with ⟨g2, e2 | e2, h3⟩ | ⟨w, e2, h3⟩ | ⟨g2, e2, h3⟩
      · rw [e2, Option.bind_some]; exact while_go R N I hs n (i + 1) g2 h3 hi (by omega)
      · rw [e2, Option.bind_some]; exact while_go R N I hs n (i + 1) g2 h3 hi (by omega)
      · rw [e2, Option.bind_some]; exact .inr ⟨w, rfl, h3⟩
      · exact h3.elim
theorem while_then {t : DTF} {s q : SF} {C : Option Out → Prop} (R : Wd → Prop) (N : Nat) (I : Nat → Gm → Prop) {g : Gm} (h0 : I 0 g) (hN : N < 1000000)
    (hs : ∀ i g, I i g → ∃ b, t g = some b ∧ (b = true → i < N ∧ Turn (s g) (I (i + 1)) R (fun _ => False)))
    (k : ∀ i g, I i g → t g = some false → C (q g)) (kr : ∀ w, R w → C (some (.rt w))) : C (apSeq (sWhile t s g) q) := by
  rcases while_go R N I hs 1000000 0 g h0 (Nat.zero_le _) (by omega) with ⟨j, g', e, h1, h2⟩ | ⟨w, e, h⟩
  · unfold sWhile; rw [e]; exact k j g' h1 h2
  · unfold sWhile; rw [e]; exact kr w h
/-! ### keys -/
def prK (q : Pr) : List Key := [.inl q.1, .inl q.2]
theorem keyD_pr (q : Pr) : keyD (prD q) = some (prK q) := rfl
theorem prK_eq {q r : Pr} : prK q = prK r ↔ q = r := ⟨fun h => by
  unfold prK at h
  injection h with h1 h2
  injection h1 with h1
  injection h2 with h2 h3
  injection h2 with h2
  exact Prod.ext h1 h2, fun h => by rw [h]⟩
abbrev Tk := List (Pr × Int)
def tkD (tk : Tk) : List (List Key × D) := tk.map fun e => (prK e.1, D.int e.2)
theorem getK_tk (q : Pr) : ∀ tk : Tk, getK (tkD tk) (prK q) = (tk.find? fun e => decide (e.1 = q)).map fun e => D.int e.2
  | [] => rfl
  | e :: tk => by
    have ih := getK_tk q tk
    unfold getK tkD at ih ⊢
    rw [List.map_cons, List.find?_cons, List.find?_cons]
    by_cases h : e.1 = q
    · rw [decide_eq_true (show (prK e.1, D.int e.2).1 = prK q by rw [h]), decide_eq_true h]; rfl
    · rw [decide_eq_false (show ¬ (prK e.1, D.int e.2).1 = prK q from fun z => h (prK_eq.mp z)), decide_eq_false h]; exact ih
def keys (tk : Tk) : List Pr := tk.map (·.1)
theorem getK_in (q : Pr) (tk : Tk) : (getK (tkD tk) (prK q)).isSome = decide (q ∈ keys tk) := by
  rw [getK_tk, Option.isSome_map, Bool.eq_iff_iff, decide_eq_true_iff, List.find?_isSome]
  exact ⟨fun ⟨e, h1, h2⟩ => List.mem_map.mpr ⟨e, h1, of_decide_eq_true h2⟩, fun h => let ⟨e, h1, h2⟩ := List.mem_map.mp h; ⟨e, h1, decide_eq_true h2⟩⟩
theorem keys_get {tk : Tk} {j : Nat} {q : Pr} {p : Int} (h : tk[j]? = some (q, p)) : (keys tk)[j]? = some q := by unfold keys; rw [List.getElem?_map, h]; rfl
theorem keys_inj {tk : Tk} (n : (keys tk).Nodup) {j l : Nat} {q : Pr} {p p' : Int} (h : tk[j]? = some (q, p)) (h' : tk[l]? = some (q, p')) : j = l :=
  (List.getElem?_inj (List.getElem?_eq_some_iff.mp (keys_get h)).1 n).mp ((keys_get h).trans (keys_get h').symm)
theorem getK_at {tk : Tk} (n : (keys tk).Nodup) {j : Nat} {q : Pr} {p : Int} (h : tk[j]? = some (q, p)) : getK (tkD tk) (prK q) = some (.int p) := by
  rw [getK_tk]
  have h1 : q ∈ keys tk := List.mem_of_getElem? (keys_get h)
  cases e : tk.find? fun e => decide (e.1 = q) with
  | none =>
    have := List.find?_eq_none.mp e _ (List.mem_of_getElem? h)
    exact absurd (decide_eq_true rfl) this
  | some x =>
    have e1 : x.1 = q := of_decide_eq_true (List.find?_some (p := fun e : Pr × Int => decide (e.1 = q)) e)
    obtain ⟨l, hl⟩ := List.mem_iff_getElem?.mp (List.mem_of_find?_eq_some e)
    obtain ⟨x1, x2⟩ := x
    cases e1
    have := keys_inj n h hl
    subst this
    rw [h] at hl
    cases hl
    rfl
theorem setK_tk {tk : Tk} {q : Pr} (p : Int) (h : q ∉ keys tk) : setK (tkD tk) (prK q) (.int p) = tkD (tk ++ [(q, p)]) := by
  unfold setK
  rw [if_neg]
  · unfold tkD; rw [List.map_append]; rfl
  · intro z
    obtain ⟨x, h1, h2⟩ := List.any_eq_true.mp z
    unfold tkD at h1
    obtain ⟨e, h3, rfl⟩ := List.mem_map.mp h1
    exact h (List.mem_map.mpr ⟨e, h3, prK_eq.mp (of_decide_eq_true h2)⟩)
/-! ### who sits where -/
def seatsOf : Nat → List (Option Pr) → Pr → List Int
  | _, [], _ => []
  | n, o :: r, q => if o = some q then (n : Int) :: seatsOf (n + 1) r q else seatsOf (n + 1) r q
theorem seatsOf_cons (n : Nat) (o : Option Pr) (r : List (Option Pr)) (q : Pr) : seatsOf n (o :: r) q = if o = some q then (n : Int) :: seatsOf (n + 1) r q else seatsOf (n + 1) r q := rfl
theorem seatsOf_mem {q : Pr} {x : Int} : ∀ {dl : List (Option Pr)} {n : Nat}, x ∈ seatsOf n dl q ↔ ∃ p : Nat, x = ((n + p : Nat) : Int) ∧ dl[p]? = some (some q)
  | [], n => by unfold seatsOf; simp
  | o :: r, n => by
    have ih := seatsOf_mem (q := q) (x := x) (dl := r) (n := n + 1)
    have key : (∃ p : Nat, x = ((n + p : Nat) : Int) ∧ (o :: r)[p]? = some (some q)) ↔ (x = (n : Int) ∧ o = some q) ∨ ∃ p : Nat, x = ((n + 1 + p : Nat) : Int) ∧ r[p]? = some (some q) := by
      constructor
      · rintro ⟨p, h1, h2⟩
        cases p with
        | zero => exact .inl ⟨by simpa using h1, by simpa using h2⟩
        | succ p => exact .inr ⟨p, by rw [h1]; congr 1; omega, by simpa using h2⟩
      · rintro (⟨h1, h2⟩ | ⟨p, h1, h2⟩)
        · exact ⟨0, by simpa using h1, by simpa using h2⟩
        · exact ⟨p + 1, by rw [h1]; congr 1; omega, by simpa using h2⟩
    rw [key, ← ih, seatsOf_cons]
    split
    · rename_i h
      rw [List.mem_cons]
      simp [h]
    · rename_i h
      simp [h]
theorem seatsOf_len (q : Pr) : ∀ (dl : List (Option Pr)) (n : Nat), (seatsOf n dl q).length = dl.count (some q)
  | [], _ => rfl
  | o :: r, n => by
    rw [List.count_cons, seatsOf_cons]
    split
    · rename_i h
      rw [List.length_cons, seatsOf_len q r, h]; simp
    · rename_i h
      rw [seatsOf_len q r]
      have : (o == some q) = false := by rw [beq_eq_false_iff_ne]; exact h
      rw [this]; simp
theorem seatsOf_nodup (q : Pr) : ∀ (dl : List (Option Pr)) (n : Nat), (seatsOf n dl q).Nodup
  | [], _ => List.nodup_nil
  | o :: r, n => by
    unfold seatsOf
    split
    · refine List.nodup_cons.mpr ⟨fun h => ?_, seatsOf_nodup q r (n + 1)⟩
      obtain ⟨p, h1, _⟩ := seatsOf_mem.mp h
      omega
    · exact seatsOf_nodup q r (n + 1)
def look (kvs : SeatL) (k : List Key) : List Int := ((kvs.find? fun kv => decide (kv.1 = k)).map (·.2)).getD []
theorem look_nil (k : List Key) : look [] k = [] := rfl
theorem look_cons (kv : List Key × List Int) (kvs : SeatL) (k : List Key) : look (kv :: kvs) k = if kv.1 = k then kv.2 else look kvs k := by
  unfold look
  rw [List.find?_cons]
  by_cases h : kv.1 = k
  · rw [decide_eq_true h, if_pos h]; rfl
  · rw [decide_eq_false h, if_neg h]
theorem look_more (k k' : List Key) (i : Int) : ∀ kvs : SeatL, k ∈ kvs.map (·.1) → look (kvs.map fun kv => if kv.1 = k then (kv.1, kv.2 ++ [i]) else kv) k' = if k' = k then look kvs k ++ [i] else look kvs k'
  | [], h => by cases h
  | kv :: kvs, h => by
    rw [List.map_cons, look_cons, look_cons, look_cons]
    by_cases h1 : kv.1 = k
    · rw [if_pos h1, if_pos h1]
      by_cases h2 : k' = k
      · rw [if_pos (show (kv.1, kv.2 ++ [i]).1 = k' by rw [h2]; exact h1), if_pos h2]
      · rw [if_neg (show ¬ (kv.1, kv.2 ++ [i]).1 = k' from fun z => h2 (z.symm.trans h1)), if_neg h2, if_neg (fun z => h2 (z.symm.trans h1))]
        by_cases h3 : k ∈ kvs.map (·.1)
        · rw [look_more k k' i kvs h3, if_neg h2]
        · congr 1
          conv => rhs; rw [← List.map_id kvs]
          refine List.map_congr_left fun x hx => ?_
          rw [if_neg fun z => h3 (List.mem_map.mpr ⟨x, hx, z⟩)]; rfl
    · rw [if_neg h1, if_neg h1]
      have h3 : k ∈ kvs.map (·.1) := by
        rcases List.mem_cons.mp h with z | z
        · exact absurd z.symm h1
        · exact z
      rw [look_more k k' i kvs h3]
      by_cases h2 : k' = k
      · rw [if_pos h2, if_pos h2, if_neg (fun z => h1 (z.trans h2))]
      · rw [if_neg h2, if_neg h2]
theorem look_no {kvs : SeatL} {k : List Key} (h : k ∉ kvs.map (·.1)) : look kvs k = [] := by
  induction kvs with
  | nil => rfl
  | cons kv kvs ih =>
    rw [look_cons, if_neg (fun z => h (by rw [List.map_cons, z]; exact List.mem_cons_self)), ih fun z => h (List.mem_cons_of_mem _ z)]
theorem look_snoc (k k' : List Key) (es : List Int) : ∀ kvs : SeatL, k ∉ kvs.map (·.1) → look (kvs ++ [(k, es)]) k' = if k' = k then es else look kvs k'
  | [], _ => by
    rw [List.nil_append, look_cons]
    by_cases z : k' = k
    · rw [if_pos (show (k, es).1 = k' from z.symm), if_pos z]
    · rw [if_neg (show ¬ (k, es).1 = k' from fun y => z y.symm), if_neg z]
  | kv :: kvs, h => by
    rw [List.cons_append, look_cons, look_cons, look_snoc k k' es kvs fun z => h (List.mem_cons_of_mem _ z)]
    by_cases h1 : kv.1 = k'
    · rw [if_pos h1, if_pos h1, if_neg (fun z => h (by rw [List.map_cons, h1, z]; exact List.mem_cons_self))]
    · rw [if_neg h1, if_neg h1]
theorem look_add (kvs : SeatL) (k k' : List Key) (i : Int) : look (addSeat kvs k i) k' = if k' = k then look kvs k ++ [i] else look kvs k' := by
  unfold addSeat
  by_cases h : k ∈ kvs.map (·.1)
  · rw [if_pos ((any_key kvs k).mpr h), look_more k k' i kvs h]
  · rw [if_neg fun z => h ((any_key kvs k).mp z), look_snoc k k' [i] kvs h, look_no h]; rfl
theorem seats_run : ∀ (dl : List (Option Pr)) (n : Nat) (kvs : SeatL), ∃ kvs', seatsD n (dl.map opD) kvs = some kvs' ∧ ∀ q, look kvs' (prK q) = look kvs (prK q) ++ seatsOf n dl q
  | [], n, kvs => ⟨kvs, by rw [List.map_nil]; unfold seatsD; rfl, fun q => by unfold seatsOf; rw [List.append_nil]⟩
  | none :: r, n, kvs => by
    obtain ⟨kvs', h1, h2⟩ := seats_run r (n + 1) kvs
    refine ⟨kvs', ?_, fun q => ?_⟩
    · rw [List.map_cons]
      exact (seatsD_non n _ kvs).trans h1
    · rw [h2 q]
      conv => rhs; unfold seatsOf
      rw [if_neg (by simp)]
  | some q0 :: r, n, kvs => by
    obtain ⟨kvs', h1, h2⟩ := seats_run r (n + 1) (addSeat kvs (prK q0) (n : Int))
    refine ⟨kvs', ?_, fun q => ?_⟩
    · rw [List.map_cons]
      exact (seatsD_tup n _ _ kvs).trans h1
    · rw [h2 q, look_add]
      conv => rhs; unfold seatsOf
      by_cases h : q = q0
      · rw [if_pos (by rw [h]), if_pos (by rw [h]), h, List.append_assoc]; rfl
      · rw [if_neg fun z => h (prK_eq.mp z), if_neg (by simp; exact fun z => h z.symm)]
theorem getD_look (kvs : SeatL) (k : List Key) : (getK (kvs.map fun kv => (kv.1, D.lst (iL kv.2))) k).getD (.lst []) = .lst (iL (look kvs k)) := by
  induction kvs with
  | nil => rfl
  | cons kv kvs ih =>
    rw [look_cons]
    unfold getK at ih ⊢
    rw [List.map_cons, List.find?_cons]
    by_cases h : kv.1 = k
    · rw [decide_eq_true (show ((kv.1, D.lst (iL kv.2)) : List Key × D).1 = k from h), if_pos h]; rfl
    · rw [decide_eq_false (show ¬ ((kv.1, D.lst (iL kv.2)) : List Key × D).1 = k from h), if_neg h]; exact ih
/-- what pieces_by_pair answers -/
structure Seats (dl : List (Option Pr)) (kvs : List (List Key × D)) : Prop where
  at_ : ∀ q, (getK kvs (prK q)).getD (.lst []) = .lst (iL (seatsOf 0 dl q))
theorem seats_spec {dl : List (Option Pr)} (hl : dl.length ≤ 1000) {r : Gm} (hr : r = [none, none, none]) : ∃ kvs, tSeats (some (.v (.lst (dl.map opD))) :: r) = some (.rt (.o (.dct kvs))) ∧ Seats dl kvs := by
  obtain ⟨kvs, h1, h2⟩ := seats_run dl 0 []
  refine ⟨kvs.map fun kv => (kv.1, D.lst (iL kv.2)), ?_, ⟨fun q => ?_⟩⟩
  · rw [hr]
    show (if (dl.map opD).length ≤ 100000 then (seatsD 0 (dl.map opD) []).map fun kvs => Out.rt (.o (seatD kvs)) else none) = _
    rw [if_pos (by rw [List.length_map]; omega), h1]; rfl
  · rw [getD_look, h2 q]; rfl
end Zc
end

section
set_option Elab.async false
set_option linter.all false
set_option maxRecDepth 100000
set_option maxHeartbeats 2000000
/-! The search for a walk, as the program writes it. -/
namespace Zc
open PySem L2 Zk
/-! ### the program -/
def t_pieces_by_pair : SF :=
 tSeats
def g_pieces_by_pair : PF := runG 3 (t_pieces_by_pair)
def t_walk_to : SF :=
 (sSeq (sAsgO (dN mkLst aNil) 3)
 (sSeq (sWhile (tDt blD (d2 isntD (dVar 2) (dC .non)))
 (sSeq (sAsg (dIxO 1 (dVar 2)) (dName 4))
 (sSeq (sApp 3 (dN mkTup (aCons (dVar 4) (aCons (dVar 2) aNil))))
 (sAsg (d2 ixD (dVar 0) (dVar 4)) (dName 2)))))
 (sFrz [3] (sRetO (d1 revD (dVar 3))))))
def g_walk_to : PF := runG 2 (t_walk_to)
def t_find_walk (c : Cs) : SF :=
 (sSeq (sAsg (dIf (tDt blD (d2 isD (dVar 2) (dC .non))) (d1 lrD (d1 (fldD c.Pool "pieces") (dVar 0))) (dVar 2)) (dName 3))
 (sSeq (sAsgO (dLc (dItems (dVar 3)) (dName 8) (tDt blD (d2 isD (d2 ixD (dVar 1) (dVar 8)) (dC .non))) (dVar 8) [8]) 4)
 (sSeq (sAsg (dCall 1 (g_pieces_by_pair) (aCons (dVar 1) aNil)) (dName 5))
 (sSeq (sAsgO (fun _ => some (.dct [])) 6)
 (sSeq (sAsg (dC (.int 0)) (dName 7))
 (sSeq (sWhile (peekT (tDt blD (d2 ltD (dVar 7) (dN lenD (aCons (dVar 4) aNil)))))
 (sSeq (sAsg (peekF (d2 ixD (dVar 4) (dVar 7))) (dName 8))
 (sSeq (sFor (dItems (dCall 2 (g_held_pairs c) (aCons (dVar 0) (aCons (dVar 8) aNil)))) (dName 9)
 (sIf (tDt blD (dNotInO 6 (dVar 9)))
 (sSeq (sPutO 6 (dVar 9) (dVar 8))
 (sSeq (sAsg (dGetO 5 (dVar 9) (dN mkLst aNil)) (dName 10))
 (sSeq (sIf (tDt blD (d2 ltD (dN lenD (aCons (dVar 10) aNil)) (dCall 2 (g_pair_room c) (aCons (dVar 0) (aCons (dVar 9) aNil)))))
 (sFrz [6] (sRetO (dCallO 3 (g_walk_to) (aCons (dVar 1) (aCons (dVar 6) (aCons (dVar 9) aNil))))))
 sNext)
 (sExt 4 (dVar 10)))))
 sNext))
 (sAugI (fun i j => i + j) 7 (dC (.int 1))))))
 (sRet (dC .non))))))))
def g_find_walk (c : Cs) : PF := runG 8 (t_find_walk c)

section
variable {g : Gm} {d e : D} {ds es : List D} {i : Nat} {q : Pr} {kvs : List (List Key × D)} {o : Option Wd} {a k : DF}
theorem dctAt_o : dctAt (some (.o (.dct kvs)) :: g) 0 = some kvs := rfl
theorem dctAt_v : dctAt (some (.v (.dct kvs)) :: g) 0 = some kvs := rfl
theorem dctAt_s : dctAt (o :: g) (i + 1) = dctAt g i := rfl
def apDix : Option (List (List Key × D)) → Option D → Option D := fun x y => x.bind fun kvs => y.bind fun z => (keyD z).bind fun ks => getK kvs ks
theorem apDix_some : apDix (some kvs) (some (prD q)) = getK kvs (prK q) := rfl
theorem dIxO_a : dIxO i k g = apDix (dctAt g i) (k g) := rfl
def apDget : Option (List (List Key × D)) → Option D → Option D → Option D := fun x y w => x.bind fun kvs => y.bind fun z => (keyD z).bind fun ks => w.bind fun d => some ((getK kvs ks).getD d)
theorem apDget_some : apDget (some kvs) (some (prD q)) (some d) = some ((getK kvs (prK q)).getD d) := rfl
theorem dGetO_a : dGetO i k a g = apDget (dctAt g i) (k g) (a g) := rfl
def apDnin : Option D → Option (List (List Key × D)) → Option D := fun y x => y.bind fun z => x.bind fun kvs => (keyD z).bind fun ks => some (.bl (!(getK kvs ks).isSome))
theorem apDnin_some : apDnin (some (prD q)) (some kvs) = some (.bl (!(getK kvs (prK q)).isSome)) := rfl
theorem dNotInO_a : dNotInO i k g = apDnin (k g) (dctAt g i) := rfl
def apPut : Option D → Option D → Option D → Nat → Gm → Option Out := fun x y w i g => x.bind fun d => y.bind fun z => (keyD z).bind fun ks => match w with
  | some (.dct kvs) => if kvs.length < 100000 then some (.nx (g.set i (some (.o (.dct (setK kvs ks d)))))) else none
  | _ => none
theorem apPut_some (h : kvs.length < 100000) : apPut (some d) (some (prD q)) (some (.dct kvs)) i g = some (.nx (g.set i (some (.o (.dct (setK kvs (prK q) d)))))) := if_pos h
theorem sPutO_a : sPutO i k a g = apPut (a g) (k g) (getO g i) i g := by
  unfold sPutO apPut getO
  cases a g with
  | none => rfl
  | some d =>
    cases k g with
    | none => rfl
    | some y =>
      simp only [Option.bind_some]
      cases keyD y with
      | none => rfl
      | some ks =>
        simp only [Option.bind_some]
        rcases h : g[i]? with _ | _ | w | w
        · rfl
        · rfl
        · rfl
        · cases w <;> rfl
def apExt : Option D → Option D → Nat → Gm → Option Out := fun x w i g => match x, w with
  | some (.lst es), some (.lst ds) => if ds.length + es.length ≤ 100000 then some (.nx (g.set i (some (.o (.lst (ds ++ es)))))) else none
  | _, _ => none
theorem apExt_some (h : ds.length + es.length ≤ 100000) : apExt (some (.lst es)) (some (.lst ds)) i g = some (.nx (g.set i (some (.o (.lst (ds ++ es)))))) := if_pos h
theorem sExt_a : sExt i a g = apExt (a g) (getO g i) i g := by
  unfold sExt apExt getO
  cases a g with
  | none => rfl
  | some d =>
    simp only [Option.bind_some]
    rcases h : g[i]? with _ | _ | w | w
    · cases d <;> rfl
    · cases d <;> rfl
    · cases d <;> rfl
    · cases d <;> cases w <;> rfl
def apAug (f : Int → Int → Int) : Option D → Option D → Nat → Gm → Option Out := fun x y i g => match x, y with
  | some (.int x), some (.int y) => (dName i (.int (f x y)) g).map .nx
  | _, _ => none
theorem apAug_some {f : Int → Int → Int} {x y : Int} : apAug f (some (.int x)) (some (.int y)) i g = (dName i (.int (f x y)) g).map .nx := rfl
theorem sAugI_a {f : Int → Int → Int} : sAugI f i a g = apAug f (dVar i g) (a g) i g := by
  unfold sAugI apAug
  cases dVar i g with
  | none => rfl
  | some x =>
    cases a g with
    | none => cases x <;> rfl
    | some y => cases x <;> cases y <;> rfl
theorem lr_i {n : Int} (h : 0 ≤ n ∧ n ≤ 100000) : lrD (.int n) = some (.lst (rngL 0 n.toNat)) := if_pos h
theorem callD2 {gf : PF} {x y z : D} {r : DAF} (h : r g = some [x, y]) : dCallD 3 [z] gf r g = (gf [x, y, z]).map Wd.d := by unfold dCallD; rw [h]; rfl
theorem callK2 {gf : PF} {x y z : D} {r s : DAF} (h : r g = some [x, y]) (h' : s g = some [z]) : dCallK 2 1 gf r s g = (gf [x, y, z]).map Wd.d := by unfold dCallK; rw [h, h']; rfl
theorem callDW2 {gf : PF} {x y z : D} {r : DAF} (h : r g = some [x, y]) : dCallDW 3 [z] gf r g = gf [x, y, z] := by unfold dCallDW; rw [h]; rfl
theorem callKW2 {gf : PF} {x y z : D} {r s : DAF} (h : r g = some [x, y]) (h' : s g = some [z]) : dCallKW 2 1 gf r s g = gf [x, y, z] := by unfold dCallKW; rw [h, h']; rfl
def apAsgW : Option Wd → Nat → Gm → Option Out := fun x i g => x.bind fun w => if okSlot g i = true then some (.nx (g.set i (some w))) else none
theorem apAsgW_some {w : Wd} (h : okSlot g i = true) : apAsgW (some w) i g = some (.nx (g.set i (some w))) := if_pos h
theorem sAsgW_a {b : Gm → Option Wd} : sAsgW b i g = apAsgW (b g) i g := rfl
end
/-! ### the tree -/
section
variable {caps : List Int} {hs : List (List Int)} {dl : List (Option Pr)} {S : List Int}
structure Tree (caps : List Int) (hs : List (List Int)) (dl : List (Option Pr)) (S : List Int) (tk : Tk) : Prop where
  kn : (keys tk).Nodup
  tr : ∀ (j : Nat) (q : Pr) (p : Int), tk[j]? = some (q, p) → ∃ n : Nat, p = n ∧ n < hs.length ∧ q ∈ heldP caps (hs[n]?.getD []) ∧ ((dl[n]? = some none ∧ p ∈ S) ∨ ∃ (l : Nat) (q' : Pr) (p' : Int), dl[n]? = some (some q') ∧ tk[l]? = some (q', p') ∧ l < j)
/-- what walk_to holds: the walk's end wk, behind the pair o -/
structure Sfx (caps : List Int) (hs : List (List Int)) (dl : List (Option Pr)) (S : List Int) (tk : Tk) (q0 : Pr) (i : Nat) (o : Option Pr) (wk : Steps) : Prop where
  ln : wk.length = i
  wb : ∀ u : List Int, (∀ s ∈ wk, s.1 ∉ u) → walkB caps hs dl o u wk = some (some q0)
  hold : Hold hs.length (wk.map (·.1))
  top : o = none → ∃ s, wk.head? = some s ∧ s.1 ∈ S
  mid : ∀ q, o = some q → ∃ (j : Nat) (p : Int), tk[j]? = some (q, p) ∧ j + i < tk.length ∧ ∀ s ∈ wk, ∃ (m : Nat) (q' : Pr) (p' : Int), dl[s.1.toNat]? = some (some q') ∧ tk[m]? = some (q', p') ∧ j ≤ m
theorem Sfx.step {tk : Tk} (T : Tree caps hs dl S tk) {q0 : Pr} {i : Nat} {q : Pr} {wk : Steps} (h : Sfx caps hs dl S tk q0 i (some q) wk) :
    ∃ (j : Nat) (n : Nat) (l : Option Pr), tk[j]? = some (q, (n : Int)) ∧ dl[n]? = some l ∧ n < hs.length ∧ i < tk.length ∧ Sfx caps hs dl S tk q0 (i + 1) l (((n : Int), q) :: wk) := by
  obtain ⟨j, p, hj, hji, hm⟩ := h.mid q rfl
  obtain ⟨n, rfl, hn, hq, hor⟩ := T.tr j q p hj
  have fresh : ∀ l, dl[n]? = some l → (∀ q', l = some q' → ∃ (x : Nat) (p' : Int), tk[x]? = some (q', p') ∧ x < j) → ∀ s ∈ wk, s.1 ≠ (n : Int) := fun l hl hlt s hs' e => by
    obtain ⟨m, q', p', h1, h2, h3⟩ := hm s hs'
    rw [e, Int.toNat_natCast, hl] at h1
    obtain ⟨x, p2, h4, h5⟩ := hlt q' (Option.some.inj h1)
    have := keys_inj T.kn h2 h4
    omega
  have main : ∀ l, dl[n]? = some l → some q ≠ l → (∀ q', l = some q' → ∃ (x : Nat) (p' : Int), tk[x]? = some (q', p') ∧ x < j) → (l = none → (n : Int) ∈ S) → Sfx caps hs dl S tk q0 (i + 1) l (((n : Int), q) :: wk) := fun l hl hne hlt hnone => by
    have fr := fresh l hl hlt
    refine ⟨by rw [List.length_cons, h.ln], fun u hu => ?_, ⟨?_, ?_⟩, fun e => ⟨_, rfl, hnone e⟩, fun q' e => ?_⟩
    · have hok : StepOk caps hs dl l u ((n : Int), q) := ⟨⟨by show (0 : Int) ≤ (n : Int); omega, by show (n : Int) < _; omega⟩, hu _ List.mem_cons_self, by show dl[((n : Nat) : Int).toNat]? = _; rw [Int.toNat_natCast]; exact hl, by show q ∈ heldP caps (hs[((n : Nat) : Int).toNat]?.getD []); rw [Int.toNat_natCast]; exact hq, hne⟩
      rw [walkB_yes hok]
      refine h.wb _ fun s hs' z => ?_
      rcases List.mem_append.mp z with z | z
      · exact hu s (List.mem_cons_of_mem _ hs') z
      · exact fr s hs' (List.mem_singleton.mp z)
    · rw [List.map_cons]
      exact List.nodup_cons.mpr ⟨fun z => by obtain ⟨s, h1, h2⟩ := List.mem_map.mp z; exact fr s h1 h2, h.hold.1⟩
    · intro k hk
      rw [List.map_cons] at hk
      rcases List.mem_cons.mp hk with z | z
      · rw [z]; show 0 ≤ (n : Int) ∧ (n : Int) < _; omega
      · exact h.hold.2 k z
    · obtain ⟨x, p', h4, h5⟩ := hlt q' e
      refine ⟨x, p', h4, by omega, fun s hs' => ?_⟩
      rcases List.mem_cons.mp hs' with z | z
      · rw [z]
        exact ⟨x, q', p', by show dl[((n : Nat) : Int).toNat]? = _; rw [Int.toNat_natCast, hl, e], h4, Nat.le_refl _⟩
      · obtain ⟨m, q2, p2, h1, h2, h3⟩ := hm s z
        exact ⟨m, q2, p2, h1, h2, by omega⟩
  refine ⟨j, n, ?_⟩
  rcases hor with ⟨h1, h2⟩ | ⟨l, q', p', h1, h2, h3⟩
  · exact ⟨none, hj, h1, hn, by omega, main none h1 (by simp) (fun q' z => by cases z) fun _ => h2⟩
  · refine ⟨some q', hj, h1, hn, by omega, main (some q') h1 (fun z => ?_) (fun q2 z => by cases z; exact ⟨l, p', h2, h3⟩) fun z => by cases z⟩
    cases z
    have := keys_inj T.kn hj h2
    omega
theorem Tree.grow {tk : Tk} (T : Tree caps hs dl S tk) {q : Pr} {n : Nat} (hq : q ∉ keys tk) (hn : n < hs.length) (hh : q ∈ heldP caps (hs[n]?.getD [])) (hw : (dl[n]? = some none ∧ (n : Int) ∈ S) ∨ ∃ q', dl[n]? = some (some q') ∧ q' ∈ keys tk) :
    Tree caps hs dl S (tk ++ [(q, (n : Int))]) where
  kn := by
    unfold keys
    rw [List.map_append, List.nodup_append]
    exact ⟨T.kn, by simp, fun a ha b hb z => hq (by simp at hb; rw [← hb, ← z]; exact ha)⟩
  tr j q' p h := by
    rcases snoc_get h with h | ⟨h1, h2⟩
    · obtain ⟨m, e, h1, h2, h3⟩ := T.tr j q' p h
      refine ⟨m, e, h1, h2, h3.imp id ?_⟩
      rintro ⟨l, q2, p2, a1, a2, a3⟩
      exact ⟨l, q2, p2, a1, by rw [List.getElem?_append_left (List.getElem?_eq_some_iff.mp a2).1]; exact a2, a3⟩
    · cases h2
      refine ⟨n, rfl, hn, hh, hw.imp id ?_⟩
      rintro ⟨q2, a1, a2⟩
      obtain ⟨l, hl⟩ := List.mem_iff_getElem?.mp a2
      unfold keys at hl
      rw [List.getElem?_map] at hl
      cases e : tk[l]? with
      | none => rw [e] at hl; cases hl
      | some x =>
        rw [e] at hl
        obtain ⟨x1, x2⟩ := x
        cases hl
        have hlt := (List.getElem?_eq_some_iff.mp e).1
        exact ⟨l, _, x2, a1, by rw [List.getElem?_append_left hlt]; exact e, by omega⟩
/-- what the search holds between two turns -/
structure Bfs (caps : List Int) (hs : List (List Int)) (dl : List (Option Pr)) (S : List Int) (tk : Tk) (wl : List Int) : Prop where
  tree : Tree caps hs dl S tk
  wn : Hold hs.length wl
  wi : ∀ n : Nat, (n : Int) ∈ wl → (dl[n]? = some none ∧ (n : Int) ∈ S) ∨ ∃ q', dl[n]? = some (some q') ∧ q' ∈ keys tk
  full : ∀ q ∈ keys tk, roomOf caps q ≤ (dl.count (some q) : Nat) ∧ ∀ n : Nat, dl[n]? = some (some q) → (n : Int) ∈ wl
  st : ∀ n : Nat, (n : Int) ∈ S → dl[n]? = some none → (n : Int) ∈ wl
theorem Bfs.new (hS : Hold hs.length S) (hl : dl.length = hs.length) : Bfs caps hs dl S [] (S.filter fun p => decide (at_ dl p = none)) := by
  have ge : ∀ n : Nat, (n : Int) ∈ S → dl[n]? = some (at_ dl (n : Int)) := fun n h => by
    have := (hS.2 _ h).2
    have := at_get (xs := dl) (k := (n : Int)) (by omega) (by omega)
    rw [Int.toNat_natCast] at this
    exact this
  refine ⟨⟨List.nodup_nil, fun j q p h => by cases h⟩, ⟨hS.1.sublist List.filter_sublist, fun k hk => hS.2 k (List.mem_filter.mp hk).1⟩, fun n hn => .inl ?_, fun q h => (by cases h), fun n h1 h2 => List.mem_filter.mpr ⟨h1, ?_⟩⟩
  · obtain ⟨h1, h2⟩ := List.mem_filter.mp hn
    exact ⟨by rw [ge n h1, of_decide_eq_true h2], h1⟩
  · rw [ge n h1] at h2
    exact decide_eq_true (Option.some.inj h2)
theorem Bfs.more {tk : Tk} {wl : List Int} (b : Bfs caps hs dl S tk wl) (hl : dl.length = hs.length) {q : Pr} {n : Nat} (hq : q ∉ keys tk) (hn : (n : Int) ∈ wl) (hh : q ∈ heldP caps (hs[n]?.getD [])) (hf : roomOf caps q ≤ (dl.count (some q) : Nat)) :
    Bfs caps hs dl S (tk ++ [(q, (n : Int))]) (wl ++ seatsOf 0 dl q) := by
  have ks : ∀ x, x ∈ keys (tk ++ [(q, (n : Int))]) ↔ x ∈ keys tk ∨ x = q := fun x => by unfold keys; rw [List.map_append, List.mem_append]; simp
  have hnl : n < hs.length := by have := (b.wn.2 _ hn).2; omega
  have hsm : ∀ m : Nat, (m : Int) ∈ seatsOf 0 dl q ↔ dl[m]? = some (some q) := fun m => by
    rw [seatsOf_mem]
    constructor
    · rintro ⟨p, h1, h2⟩; rw [show m = p by omega]; exact h2
    · exact fun h => ⟨m, by omega, h⟩
  refine ⟨b.tree.grow hq hnl hh (b.wi n hn), ⟨?_, fun k hk => ?_⟩, fun m hm => ?_, fun q' h => ?_, fun m h1 h2 => List.mem_append_left _ (b.st m h1 h2)⟩
  · rw [List.nodup_append]
    refine ⟨b.wn.1, seatsOf_nodup q dl 0, fun x hx y hy z => ?_⟩
    rw [z] at hx
    obtain ⟨p, h1, h2⟩ := seatsOf_mem.mp hy
    rw [show (0 + p : Nat) = p by omega] at h1
    rw [h1] at hx
    rcases b.wi p hx with ⟨h3, _⟩ | ⟨q', h3, h4⟩
    · rw [h2] at h3; cases h3
    · rw [h2] at h3; cases h3; exact hq h4
  · rcases List.mem_append.mp hk with z | z
    · exact b.wn.2 k z
    · obtain ⟨p, h1, h2⟩ := seatsOf_mem.mp z
      have := (List.getElem?_eq_some_iff.mp h2).1
      omega
  · rcases List.mem_append.mp hm with z | z
    · exact (b.wi m z).imp id fun ⟨q', h1, h2⟩ => ⟨q', h1, (ks q').mpr (.inl h2)⟩
    · exact .inr ⟨q, (hsm m).mp z, (ks q).mpr (.inr rfl)⟩
  · rcases (ks q').mp h with z | z
    · exact ⟨(b.full q' z).1, fun m hm => List.mem_append_left _ ((b.full q' z).2 m hm)⟩
    · rw [z]
      exact ⟨hf, fun m hm => List.mem_append_right _ ((hsm m).mpr hm)⟩
/-- what stands when no walk is found -/
structure Stuck (caps : List Int) (hs : List (List Int)) (dl : List (Option Pr)) (S : List Int) (K : List Pr) : Prop where
  nd : K.Nodup
  full : ∀ q ∈ K, roomOf caps q ≤ (dl.count (some q) : Nat)
  st : ∀ n : Nat, (n : Int) ∈ S → dl[n]? = some none → ∀ q ∈ heldP caps (hs[n]?.getD []), q ∈ K
  sat : ∀ (n : Nat) (q : Pr), dl[n]? = some (some q) → q ∈ K → ∀ q' ∈ heldP caps (hs[n]?.getD []), q' ∈ K
theorem Bfs.stuck {tk : Tk} {wl : List Int} (b : Bfs caps hs dl S tk wl) (h : ∀ n : Nat, (n : Int) ∈ wl → ∀ q ∈ heldP caps (hs[n]?.getD []), q ∈ keys tk) : Stuck caps hs dl S (keys tk) :=
  ⟨b.tree.kn, fun q hq => (b.full q hq).1, fun n h1 h2 => h n (b.st n h1 h2), fun n q h1 h2 => h n ((b.full q h2).2 n h1)⟩
end
end Zc
end

section
set_option Elab.async false
set_option linter.all false
set_option maxRecDepth 100000
set_option maxHeartbeats 2000000
/-! What the search answers. -/
namespace Zc
open PySem L2 Zk
theorem snoc_s2 {xs : Steps} {x : Int} {q : Pr} : xs.map stD ++ [D.tup [.int x, prD q]] = (xs ++ [(x, q)]).map stD := by rw [List.map_append]; rfl
local macro_rules | `(tactic| walk_at "zs") => `(tactic| simp only [beq_self_eq_true, Bool.or_false, Bool.false_or, Bool.true_or, Bool.or_true, Bool.and_false, Bool.false_and, Bool.true_and, Bool.and_true, Zc.isi_ii, Zc.isi_ib, Zc.isi_tt, Zc.isi_ll, Zc.rowsT_len, Zc.rowsL_len, Zc.is_integer_call, Zc.ix_p0, Zc.ix_p1, dgTup2_a, dgTup3_a, Bool.not_true, Bool.not_false, mul_lz, List.flatten_cons, List.flatten_nil, Int.reduceToNat, add_ll, pow10_12, pow10_18, pow10_39, pow10_41, pow10_59, pow10_60, mkLst_some, mkTup_some, List.length_cons, List.length_nil, Nat.zero_le, Nat.reduceAdd, Nat.reduceLeDiff, call1, callO1, call2, callO2, call3, callO3, call4, callO4, call5, callO5, call6, callO6, ap1_some, ap2_some, apN_some, apC_some, d1_a, d2_a, dN_a, aNil_a, aCons_a, dC_a, dVar_z, dVar_s, tDt_a, apAnd_t, apAnd_f, apOr_t, apOr_f, dAndT_a, dOrT_a, apNot_some, dNotT_a, apAndV_t, apAndV_f, dAndV_a, apOrV_t, apOrV_f, dOrV_a, apIf_t, apIf_f, dIf_a, apCh_t, apCh_f, apChain_some, dChain_a, apSeq_nx, apSeq_rt, apSeq_ct, apSeq_bk, sSeq_a, apIfS_t, apIfS_f, sIf_a, sNext_a, sCont_a, sBreak_a, apRet_some, sRet_a, apRetO_some, sRetO_a, sRetN_a, getO_z, getO_s, apRetV_some, sRetV_a, ltB_z, ltB_s, okSlot_s, apAsg_some, sAsg_a, dName_ok, apG_some, dgCons_a, dgNil_a, apAsgO_some, sAsgO_a, sApp_a, sSetI_a, apFor_some, sFor_a, dItems_a, dRng1_a, dRng2_a, apEn_some, apEn_tup, dEnum_a, sFrz_a, frzs_nil, frzs_cons, frzI_o, frzI_v, frzI_n, frzI_s, frz1_s, frzAll_nil, frzAll_o, frzAll_v, frzAll_n, peekT_a, apPk_int, apPk_bl, apPk_str, apPk_non, peekF_a, dCall_a, toO_o, dCallO_a, dMake_a, Wd_v, Wd_o, dSl_a, apSl_some, oNone_a, oSome_a, apO_some, add_ii, sub_ii, lt_ii, le_ii, gt_ii, ge_ii, eq_ii, ne_ii, neg_i, not_b, bl_b, tru_b, tru_i, tru_l, tru_t, tru_n, len_l, len_t, len_scr, abs_i, int_i, list_l, list_t, tuple_l, tuple_t, min_ii, max_ii, rev_l, items_l, items_t, iL_len, run_a, outW_rt, outW_nx, List.map_cons, List.map_nil, List.replicate, List.append_nil, List.cons_append, List.nil_append, List.set_cons_zero, List.set_cons_succ, Option.map_some])
local macro_rules | `(tactic| walk_at "zd") => `(tactic| first | ((with_reducible show okSlot _ _ = true); simp only [okSlot_s, ltB_z, ltB_s]; done) | omega | assumption | decide | (simp only [List.length_map, List.length_append, List.length_cons, List.length_nil, List.length_range, List.length_set, List.length_reverse, iL_len, Zc.rowsT_len, Zc.rowsL_len] at *; omega))
local macro_rules | `(tactic| walk_at "zz") => `(tactic| simp (disch := walk_at "zd") only [dgTup2_a, dgTup3_a, Bool.not_true, Bool.not_false, mul_lz, List.flatten_cons, List.flatten_nil, Int.reduceToNat, add_ll, pow10_12, pow10_18, pow10_39, pow10_41, pow10_59, pow10_60, mkLst_some, mkTup_some, List.length_cons, List.length_nil, Nat.zero_le, Nat.reduceAdd, Nat.reduceLeDiff, call1, callO1, call2, callO2, call3, callO3, call4, callO4, call5, callO5, call6, callO6, ap1_some, ap2_some, apN_some, apC_some, d1_a, d2_a, dN_a, aNil_a, aCons_a, dC_a, dVar_z, dVar_s, tDt_a, apAnd_t, apAnd_f, apOr_t, apOr_f, dAndT_a, dOrT_a, apNot_some, dNotT_a, apAndV_t, apAndV_f, dAndV_a, apOrV_t, apOrV_f, dOrV_a, apIf_t, apIf_f, dIf_a, apCh_t, apCh_f, apChain_some, dChain_a, apSeq_nx, apSeq_rt, apSeq_ct, apSeq_bk, sSeq_a, apIfS_t, apIfS_f, sIf_a, sNext_a, sCont_a, sBreak_a, apRet_some, sRet_a, apRetO_some, sRetO_a, sRetN_a, getO_z, getO_s, apRetV_some, sRetV_a, ltB_z, ltB_s, okSlot_s, apAsg_some, sAsg_a, dName_ok, apG_some, dgCons_a, dgNil_a, apAsgO_some, sAsgO_a, sApp_a, sSetI_a, apFor_some, sFor_a, dItems_a, dRng1_a, dRng2_a, apEn_some, apEn_tup, dEnum_a, sFrz_a, frzs_nil, frzs_cons, frzI_o, frzI_v, frzI_n, frzI_s, frz1_s, frzAll_nil, frzAll_o, frzAll_v, frzAll_n, peekT_a, apPk_int, apPk_bl, apPk_str, apPk_non, peekF_a, dCall_a, toO_o, dCallO_a, dMake_a, Wd_v, Wd_o, dSl_a, apSl_some, oNone_a, oSome_a, apO_some, add_ii, sub_ii, lt_ii, le_ii, gt_ii, ge_ii, eq_ii, ne_ii, neg_i, not_b, bl_b, tru_b, tru_i, tru_l, tru_t, tru_n, len_l, len_t, len_scr, abs_i, int_i, list_l, list_t, tuple_l, tuple_t, min_ii, max_ii, rev_l, items_l, items_t, iL_len, run_a, outW_rt, outW_nx, List.map_cons, List.map_nil, List.replicate, List.append_nil, List.cons_append, List.nil_append, List.set_cons_zero, List.set_cons_succ, Option.map_some, Int.reduceAdd, Int.reduceMul, Int.reduceSub, Int.reduceNeg, beq_self_eq_true, Bool.or_false, Bool.false_or, Bool.true_or, Bool.or_true, Bool.and_false, Bool.false_and, Bool.true_and, Bool.and_true, Zc.isi_ii, Zc.isi_ib, Zc.isi_tt, Zc.isi_ll, Zc.rowsT_len, Zc.rowsL_len, Zc.is_integer_call, Zc.ix_p0, Zc.ix_p1, apR1_any, Int.toNat_natCast, apR2_some, mod_ii, fdiv_ii, mul_small, apApp_some, ix_at, ix_atT, ix_atI, ix_atIT, ix_atR, ix_atRT, List.length_map, List.length_append, List.length_range, List.length_set, Option.map_none, Option.map_map, decide_true, decide_false, peekO_a, apPkO_i, frz_wo, frz_wv, frz_kk, wipeG_nil, wipeG_cons, orB_s, orB_t, orB_f, andB_s, andB_t, andB_f, orV_s, orV_t, orV_f, andV_s, andV_t, andV_f, apOr_b, apAnd_b, apOrV_b, apAndV_b, apCh_b, Zc.cut_from, Zc.cut_to, in_l, in_t, in_pr, eq_op_op, eq_op_pr, eq_pr_op, eq_pr_pr, ne_op_op, ne_op_pr, ne_pr_op, ne_pr_pr, isnt_op, is_op, pr_0, pr_1, st_0, st_1, inP_pr, ninP_pr, nin_l, isi_prt, len_pr, op_some, prD_eq, ix_lit2, ix_lit3, ix_lit4, ix_lit5, ix_lit6, ix_lit7, ix_lit8, ix_lit9, ix_lit10, ix_lit11, ix_lit12, ix_lit13, ix_lit14, ix_lit15, setI_i, setI_p, setI_o, setI_n, snoc_i, snoc_r, snoc_p, snoc_n, snoc_o, snoc_pp, snoc_s, eq_ol, ne_ol, eq_pl, ne_pl, eq_sl, ne_sl, eq_il, ne_il, eq_rl, ne_rl, eq_il1, isi_bb, eq_bb, ne_bb, dctAt_o, dctAt_v, dctAt_s, apDix_some, dIxO_a, apDget_some, dGetO_a, apDnin_some, dNotInO_a, apPut_some, sPutO_a, apExt_some, sExt_a, apAug_some, sAugI_a, lr_i, apAsgW_some, sAsgW_a, snoc_s2])
local macro_rules | `(tactic| walk_at "zf") => `(tactic| first | (walk_at "zz"; done) | (walk_at "zz"; rfl) | rfl)
local macro_rules | `(tactic| walk_at "lc") => `(tactic| ((case hf => rfl); (case hi => first | (walk_at "zz"; done) | (walk_at "zz"; rfl) | rfl); (case hl => walk_at "zd"); (case h => (intro a ha; refine ⟨_, dName_ok rfl, ?_, fun hT => ?_⟩ <;> walk_at "zz" <;> rfl))))
local macro_rules | `(tactic| walk_at "lm") => `(tactic| ((case hf => rfl); (case hi => first | (walk_at "zz"; done) | (walk_at "zz"; rfl) | rfl); (case hl => walk_at "zd"); (case h => (intro a ha; refine ⟨_, dName_ok rfl, ?_⟩; walk_at "zz"; rfl))))
theorem prs_held {caps : List Int} : ∀ h : List Int, prs (h.filter (posC caps)) = (heldP caps h).map prD
  | [] => rfl
  | a :: r => by
    have ih := prs_held (caps := caps) r
    unfold heldP
    rw [List.map_append, ← ih, List.filter_cons]
    by_cases ha : posC caps a = true
    · rw [if_pos ha]
      show (r.filter (posC caps)).map (pr a) ++ prs (r.filter (posC caps)) = _
      congr 1
      rw [List.map_map]
      have : r.filter (posC caps) = r.filter fun b => decide (0 < roomOf caps (a, b)) := List.filter_congr fun b _ => by
        unfold posC at ha ⊢
        have := of_decide_eq_true ha
        unfold roomOf
        by_cases hb : 0 < capAt caps b
        · rw [decide_eq_true hb]; symm; apply decide_eq_true; show 0 < if capAt caps b < capAt caps a then capAt caps b else capAt caps a; split <;> omega
        · rw [decide_eq_false hb]; symm; apply decide_eq_false; show ¬ 0 < if capAt caps b < capAt caps a then capAt caps b else capAt caps a; split <;> omega
      rw [this]
      rfl
    · rw [if_neg ha]
      have : r.filter (fun b => decide (0 < roomOf caps (a, b))) = [] := List.filter_eq_nil_iff.mpr fun b _ => by
        unfold posC at ha
        have h1 : ¬ 0 < capAt caps a := fun z => ha (decide_eq_true z)
        have : ¬ 0 < roomOf caps (a, b) := by
          unfold roomOf
          show ¬ 0 < if capAt caps b < capAt caps a then capAt caps b else capAt caps a
          split <;> omega
        rw [decide_eq_false this]; simp
      rw [this]; rfl
theorem held_pairs_P (c : Cs) {caps : List Int} {hs : List (List Int)} {m : Nat} (ok : PoolOk caps hs m) {n : Nat} (hn : n < hs.length) :
    g_held_pairs c [poolD c caps hs, .int (n : Int)] = some (.o (.lst ((heldP caps (hs[n]?.getD [])).map prD))) := by
  have e := List.getElem?_eq_getElem hn
  rw [held_pairs_spec c e (ok.asc _ (List.mem_of_getElem? e)) (by have := ok.s12; omega), e]
  unfold heldL
  rw [prs_held]; rfl
theorem walk_to_spec {caps : List Int} {hs : List (List Int)} {dl : List (Option Pr)} {S : List Int} {tk : Tk} (T : Tree caps hs dl S tk) (hl : dl.length = hs.length) (h1 : hs.length ≤ 1000) (ht : tk.length ≤ 10000) {j : Nat} {q0 : Pr} {p0 : Int} (hj : tk[j]? = some (q0, p0)) :
    ∃ sts : Steps, g_walk_to [.lst (dl.map opD), .dct (tkD tk), prD q0] = some (.o (.lst (sts.map stD))) ∧ walkB caps hs dl none [] sts = some (some q0) ∧ (∃ s, sts.head? = some s ∧ s.1 ∈ S) ∧ Hold hs.length (sts.map (·.1)) := by
  suffices h : Gets (g_walk_to [.lst (dl.map opD), .dct (tkD tk), prD q0]) fun w => ∃ sts : Steps, w = .o (.lst (sts.map stD)) ∧ walkB caps hs dl none [] sts = some (some q0) ∧ (∃ s, sts.head? = some s ∧ s.1 ∈ S) ∧ Hold hs.length (sts.map (·.1)) by
    obtain ⟨w, e, sts, rfl, h⟩ := h
    exact ⟨sts, e, h⟩
  unfold g_walk_to t_walk_to
  walk_at "zz"
  refine while_then (C := fun o => Gets (outW o) _) (fun _ => False) tk.length (fun i g => ∃ (o : Option Pr) (wk : Steps) (k4 : Option Wd), g = [some (.v (.lst (dl.map opD))), some (.v (.dct (tkD tk))), some (.v (opD o)), some (.o (.lst (wk.reverse.map stD))), k4] ∧ Sfx caps hs dl S tk q0 i o wk) ⟨some q0, [], none, rfl, ?_⟩ (by omega) ?_ ?_ ?_
  · exact ⟨rfl, fun u _ => rfl, ⟨List.nodup_nil, fun k hk => by cases hk⟩, (fun z => by cases z), fun q z => by cases z; exact ⟨j, p0, hj, by have := (List.getElem?_eq_some_iff.mp hj).1; omega, fun s hs' => by cases hs'⟩⟩
  · rintro i g ⟨o, wk, k4, rfl, h⟩
    walk_at "zz"
    refine ⟨_, rfl, fun hb => ?_⟩
    cases o with
    | none => cases hb
    | some q =>
      obtain ⟨l, n, lo, e1, e2, e3, e4, e5⟩ := h.step T
      refine ⟨e4, ?_⟩
      have hw := h.hold.len
      rw [List.length_map] at hw
      walk_at "zz"
      rw [getK_at T.kn e1]
      walk_at "zz"
      rw [show at_ dl (n : Int) = lo from at_eq rfl e2]
      exact turn_nx ⟨lo, (n, q) :: wk, _, by rw [List.reverse_cons], e5⟩
  · rintro i g ⟨o, wk, k4, rfl, h⟩ ht
    walk_at "zz"
    cases o with
    | some q => revert ht; walk_at "zz"; exact fun z => by cases z
    | none =>
      refine ⟨_, rfl, wk, ?_, h.wb [] (fun s _ z => by cases z), h.top rfl, h.hold⟩
      rw [← List.map_reverse, List.reverse_reverse]
  · exact fun w z => z.elim
theorem pieces_spec {dl : List (Option Pr)} (hl : dl.length ≤ 1000) : ∃ kvs, g_pieces_by_pair [.lst (dl.map opD)] = some (.o (.dct kvs)) ∧ Seats dl kvs := by
  obtain ⟨kvs, h1, h2⟩ := seats_spec hl (r := [none, none, none]) rfl
  refine ⟨kvs, ?_, h2⟩
  show outW (tSeats [some (.v (.lst (dl.map opD))), none, none, none]) = _
  rw [h1]; rfl
theorem room_P (c : Cs) {caps : List Int} {hs : List (List Int)} {q : Pr} (h : InR caps q) : g_pair_room c [poolD c caps hs, prD q] = some (.v (.int (roomOf caps q))) := pair_room_spec c h.1 h.2
theorem gen_each {α : Type} {f : DGF} {s q : SF} {C : Option Out → Prop} (enc : α → D) (xs : List α) (R : Wd → Prop) (B : Gm → Prop) (I : Nat → Gm → Prop) {g : Gm} (h0 : I 0 g)
    (hs : ∀ (i : Nat) (a : α) (g : Gm), xs[i]? = some a → I i g → ∃ g1, f (enc a) g = some g1 ∧ Turn (s g1) (I (i + 1)) R B)
    (k : ∀ g', I xs.length g' → C (q g')) (kb : ∀ g', B g' → C (q g')) (kr : ∀ w, R w → C (some (.rt w))) : C (apSeq (loopD f s (xs.map enc) g) q) :=
  gen_then R B I h0 (fun i d g hd hI => by
    rw [List.getElem?_map] at hd
    cases e : xs[i]? with
    | none => rw [e] at hd; cases hd
    | some a => rw [e] at hd; cases hd; exact hs i a g e hI) (fun g' h => k g' (by rw [List.length_map] at h; exact h)) kb kr
theorem app_i {xs ys : List Int} : iL xs ++ iL ys = iL (xs ++ ys) := by unfold iL; rw [List.map_append]
theorem rng_iL (n : Nat) : rngL 0 n = iL ((List.range n).map fun i => ((i : Nat) : Int)) := by
  unfold rngL iL
  rw [List.map_map]
  exact List.map_congr_left fun i _ => by show D.int (0 + (i : Int)) = _; rw [Int.zero_add]; rfl
/-- what find_walk answers -/
def FoundW (caps : List Int) (hs : List (List Int)) (dl : List (Option Pr)) (S : List Int) (w : Wd) : Prop :=
  (w = .v .non ∧ ∃ K, Stuck caps hs dl S K) ∨ ∃ sts : Steps, w = .o (.lst (sts.map stD)) ∧ dueB caps hs dl sts = true ∧ (∃ s, sts.head? = some s ∧ s.1 ∈ S) ∧ Hold hs.length (sts.map (·.1))
theorem find_walk_spec (c : Cs) {caps : List Int} {hs : List (List Int)} {m : Nat} (ok : PoolOk caps hs m) (hm : m ≤ 20) {dl : List (Option Pr)} (hl : dl.length = hs.length) {S : List Int} (hS : Hold hs.length S) (pcs : D)
    (hp : (pcs = .non ∧ S = (List.range hs.length).map fun i => ((i : Nat) : Int)) ∨ pcs = .lst (iL S)) : Gets (g_find_walk c [poolD c caps hs, .lst (dl.map opD), pcs]) (FoundW caps hs dl S) := by
  have hpm := ok.pm
  have hSl := hS.len
  obtain ⟨kvs, ek, sk⟩ := pieces_spec (dl := dl) (by omega)
  unfold g_find_walk t_find_walk
  walk_at "zz"
  refine seq_then (C := fun o => Gets (outW o) _) (fun g => g = [some (.v (poolD c caps hs)), some (.v (.lst (dl.map opD))), some (.v pcs), some (.v (.lst (iL S))), none, none, none, none, none, none, none]) ?_ ?_
  · rcases hp with ⟨rfl, e⟩ | rfl
    · refine ⟨_, ?_, rfl⟩
      rw [show isD D.non D.non = some (.bl true) from rfl]
      walk_at "zz"
      rw [fld_pieces]
      walk_at "zz"
      rw [rng_iL, ← e]
    · refine ⟨_, ?_, rfl⟩
      rw [show isD (D.lst (iL S)) D.non = some (.bl false) from rfl]
      walk_at "zz"
  · rintro g rfl
    walk_at "zz"
    rewrite [dLc_filt D.int (xs := S) (T := fun p => decide (at_ dl p = none)) (F := D.int)]
    case hf => rfl
    case hi => walk_at "zz"; rfl
    case hl => omega
    case h =>
      intro a ha
      have := hS.2 a ha
      refine ⟨_, dName_ok rfl, ?_, fun hT => ?_⟩
      · walk_at "zz"
      · walk_at "zz"
    rw [show ((S.filter fun p => decide (at_ dl p = none)).map D.int) = iL (S.filter fun p => decide (at_ dl p = none)) from rfl]
    walk_at "zz"
    rw [ek]
    walk_at "zz"
    refine while_then (C := fun o => Gets (outW o) _) (FoundW caps hs dl S) hs.length (fun i g => ∃ (tk : Tk) (wl : List Int) (p8 p9 p10 : Option Wd), g = [some (.v (poolD c caps hs)), some (.v (.lst (dl.map opD))), some (.v pcs), some (.v (.lst (iL S))), some (.o (.lst (iL wl))), some (.v (.dct kvs)), some (.o (.dct (tkD tk))), some (.v (.int (i : Int))), p8, p9, p10] ∧
      Bfs caps hs dl S tk wl ∧ (∀ (j : Nat), j < i → ∀ n : Nat, wl[j]? = some (n : Int) → ∀ q ∈ heldP caps (hs[n]?.getD []), q ∈ keys tk) ∧ i ≤ wl.length ∧ tk.length ≤ 200 * i) ⟨[], _, _, _, _, rfl, Bfs.new hS hl, fun j hj => by omega, Nat.zero_le _, Nat.zero_le _⟩ (by omega) ?_ ?_ ?_
    · rintro i g ⟨tk, wl, p8, p9, p10, rfl, b, hc, hi, ht⟩
      have hwl := b.wn.len
      walk_at "zz"
      refine ⟨_, rfl, fun hb => ?_⟩
      have hlt : i < wl.length := by have := of_decide_eq_true hb; omega
      refine ⟨by omega, ?_⟩
      obtain ⟨n, en, hnl⟩ : ∃ n : Nat, wl[i]? = some (n : Int) ∧ n < hs.length := by
        have e := List.getElem?_eq_getElem hlt
        have := b.wn.2 _ (List.mem_of_getElem? e)
        exact ⟨(wl[i]).toNat, by rw [e]; congr 1; omega, by omega⟩
      walk_at "zz"
      rw [show at_ wl (i : Int) = (n : Int) from at_eq rfl en, held_pairs_P c ok hnl]
      walk_at "zz"
      have hla : (heldP caps (hs[n]?.getD [])).length ≤ 200 := by
        have e := List.getElem?_eq_getElem hnl
        rw [e]
        have ha := ok.asc _ (List.mem_of_getElem? e)
        have h1 := (Asc.hold ha).len
        have h2 := ok.s12
        have h3 := heldP_len caps hs[n]
        have : hs[n].length * hs[n].length ≤ 12 * 12 := Nat.mul_le_mul (by omega) (by omega)
        show (heldP caps hs[n]).length ≤ 200
        omega
      have hin : ∀ q ∈ heldP caps (hs[n]?.getD []), InR caps q := fun q hq => by
        have e := List.getElem?_eq_getElem hnl
        rw [e] at hq
        exact held_in (ok.asc _ (List.mem_of_getElem? e)) hq
      refine gen_each (C := fun o => Turn o _ _ _) prD _ (FoundW caps hs dl S) (fun _ => False) (fun i2 g => ∃ (tk : Tk) (wl : List Int) (p9 p10 : Option Wd), g = [some (.v (poolD c caps hs)), some (.v (.lst (dl.map opD))), some (.v pcs), some (.v (.lst (iL S))), some (.o (.lst (iL wl))), some (.v (.dct kvs)), some (.o (.dct (tkD tk))), some (.v (.int (i : Int))), some (.v (.int (n : Int))), p9, p10] ∧
        Bfs caps hs dl S tk wl ∧ (∀ (j : Nat), j < i → ∀ n : Nat, wl[j]? = some (n : Int) → ∀ q ∈ heldP caps (hs[n]?.getD []), q ∈ keys tk) ∧ wl[i]? = some (n : Int) ∧ (∀ (l : Nat) (q : Pr), l < i2 → (heldP caps (hs[n]?.getD []))[l]? = some q → q ∈ keys tk) ∧ tk.length ≤ 200 * i + i2) ⟨tk, wl, _, _, rfl, b, hc, en, fun l q z => by omega, ht⟩ ?_ ?_ (fun _ z => z.elim) (fun w z => turn_rt z)
      · rintro i2 q g hq ⟨tk, wl, p9, p10, rfl, b, hc, en, hh, ht⟩
        have hqm := List.mem_of_getElem? hq
        have hi2 := (List.getElem?_eq_some_iff.mp hq).1
        have hwl := b.wn.len
        have hil := (List.getElem?_eq_some_iff.mp en).1
        have htk : (tkD tk).length < 100000 := by unfold tkD; rw [List.length_map]; omega
        have hsl : (seatsOf 0 dl q).length ≤ 1000 := by rw [seatsOf_len]; have := List.count_le_length (a := some q) (l := dl); omega
        refine ⟨_, dName_ok rfl, ?_⟩
        walk_at "zz"
        rw [getK_in]
        refine if_end (C := fun o => Turn o _ _ _) (fun hb => ?_) fun hb => ?_
        · have hnk : q ∉ keys tk := fun z => by rw [decide_eq_true z] at hb; cases hb
          walk_at "zz"
          rw [setK_tk _ hnk, sk.at_, room_P c (hin q hqm)]
          walk_at "zz"
          rw [seatsOf_len]
          have T := b.tree.grow hnk hnl hqm (b.wi n (List.mem_of_getElem? en))
          refine if_cut (C := fun o => Turn o _ _ _) (fun hb => ?_) fun hb => ?_
          · walk_at "zz"
            obtain ⟨sts, e1, e2, e3, e4⟩ := walk_to_spec T hl (by omega) (by rw [List.length_append, List.length_singleton]; omega) (j := tk.length) (q0 := q) (p0 := (n : Int)) (by rw [List.getElem?_append_right (Nat.le_refl _), Nat.sub_self]; rfl)
            rw [e1]
            walk_at "zz"
            refine turn_rt (.inr ⟨sts, rfl, ?_, e3, e4⟩)
            unfold dueB
            rw [e2]
            exact hb
          · walk_at "zz"
            rw [app_i]
            have hf : roomOf caps q ≤ (dl.count (some q) : Nat) := by have := of_decide_eq_false hb; omega
            refine turn_nx ⟨_, _, _, _, rfl, b.more hl hnk (List.mem_of_getElem? en) hqm hf, fun j hj m hm q' hq' => ?_, ?_, fun l q' hl2 hq' => ?_, by rw [List.length_append, List.length_singleton]; omega⟩
            · rw [List.getElem?_append_left (by omega)] at hm
              unfold keys
              rw [List.map_append]
              exact List.mem_append_left _ (hc j hj m hm q' hq')
            · rw [List.getElem?_append_left hil]; exact en
            · unfold keys
              rw [List.map_append]
              by_cases hx : l < i2
              · exact List.mem_append_left _ (hh l q' hx hq')
              · have : l = i2 := by omega
                subst this
                rw [hq] at hq'
                cases hq'
                exact List.mem_append_right _ (by simp)
        · have hk : q ∈ keys tk := by
            by_cases z : q ∈ keys tk
            · exact z
            · rw [decide_eq_false z] at hb; cases hb
          walk_at "zz"
          refine turn_nx ⟨_, _, _, _, rfl, b, hc, en, fun l q' hl2 hq' => ?_, by omega⟩
          by_cases hx : l < i2
          · exact hh l q' hx hq'
          · have : l = i2 := by omega
            subst this
            rw [hq] at hq'
            cases hq'
            exact hk
      · rintro g ⟨tk, wl, p9, p10, rfl, b, hc, en, hh, ht⟩
        walk_at "zz"
        refine turn_nx ⟨_, _, _, _, _, rfl, b, fun j hj m hm q hq => ?_, (List.getElem?_eq_some_iff.mp en).1, by omega⟩
        by_cases hx : j < i
        · exact hc j hx m hm q hq
        · have : j = i := by omega
          subst this
          rw [en] at hm
          have : n = m := by have := Option.some.inj hm; omega
          subst this
          obtain ⟨l, hl2⟩ := List.mem_iff_getElem?.mp hq
          exact hh l q (List.getElem?_eq_some_iff.mp hl2).1 hl2
    · rintro i g ⟨tk, wl, p8, p9, p10, rfl, b, hc, hi, ht⟩ hf
      have hwl := b.wn.len
      walk_at "zz"
      have hge : ¬ i < wl.length := by
        revert hf
        walk_at "zz"
        intro hf
        have := of_decide_eq_false (Option.some.inj hf)
        omega
      refine ⟨_, rfl, .inl ⟨rfl, keys tk, b.stuck fun n hn => ?_⟩⟩
      obtain ⟨j, hj⟩ := List.mem_iff_getElem?.mp hn
      exact hc j (by have := (List.getElem?_eq_some_iff.mp hj).1; omega) n hj
    · exact fun w z => ⟨w, rfl, z⟩
end Zc
end

section
set_option Elab.async false
set_option linter.all false
set_option maxRecDepth 100000
set_option maxHeartbeats 2000000
/-! Lots and places: what a dealing can reach, and what a failed search shows. -/
namespace Zc
open PySem L2 Zk
theorem nodup_sub {α : Type} [DecidableEq α] : ∀ {l1 l2 : List α}, l1.Nodup → (∀ x ∈ l1, x ∈ l2) → l1.length ≤ l2.length
  | [], _, _, _ => Nat.zero_le _
  | a :: l, l2, n, h => by
    have ha := h a List.mem_cons_self
    have hn := List.nodup_cons.mp n
    have := nodup_sub (l2 := l2.erase a) hn.2 fun x hx => (List.mem_erase_of_ne (fun z => hn.1 (by rw [← z]; exact hx))).mpr (h x (List.mem_cons_of_mem _ hx))
    rw [List.length_erase_of_mem ha] at this
    have : 0 < l2.length := List.length_pos_of_mem ha
    rw [List.length_cons]
    omega
def sumP (g : Pr → Int) : List Pr → Int
  | [] => 0
  | q :: r => g q + sumP g r
theorem sumP_mono {g g' : Pr → Int} : ∀ {P : List Pr}, (∀ q ∈ P, g q ≤ g' q) → sumP g P ≤ sumP g' P
  | [], _ => Int.le_refl _
  | q :: r, h => by
    have := sumP_mono (P := r) fun x hx => h x (List.mem_cons_of_mem _ hx)
    have := h q List.mem_cons_self
    unfold sumP
    omega
def cnt (X : List Int) (f : Int → Option Pr) (q : Pr) : Nat := (X.filter fun p => decide (f p = some q)).length
theorem split_len {α : Type} (X : List α) (T : α → Bool) : X.length = (X.filter T).length + (X.filter fun x => !T x).length := by
  induction X with
  | nil => rfl
  | cons x X ih =>
    rw [List.filter_cons, List.filter_cons]
    cases h : T x <;> simp <;> omega
theorem cnt_sub {X : List Int} {f : Int → Option Pr} {q : Pr} (T : Int → Bool) : cnt (X.filter T) f q ≤ cnt X f q := by
  unfold cnt
  rw [List.filter_filter]
  induction X with
  | nil => exact Nat.le_refl _
  | cons x X ih =>
    rw [List.filter_cons, List.filter_cons]
    cases T x <;> cases decide (f x = some q) <;> simp <;> omega
theorem cnt_all {f : Int → Option Pr} : ∀ (P : List Pr) (X : List Int), (∀ x ∈ X, ∃ q ∈ P, f x = some q) → (X.length : Int) ≤ sumP (fun q => (cnt X f q : Int)) P
  | [], X, h => by
    cases X with
    | nil => exact Int.le_refl _
    | cons x X => obtain ⟨q, z, _⟩ := h x List.mem_cons_self; cases z
  | q :: P, X, h => by
    have e := split_len X fun p => decide (f p = some q)
    have ih := cnt_all P (X.filter fun x => !decide (f x = some q)) fun x hx => by
      obtain ⟨h1, h2⟩ := List.mem_filter.mp hx
      obtain ⟨q', h3, h4⟩ := h x h1
      rcases List.mem_cons.mp h3 with z | z
      · rw [h4, z] at h2; simp at h2
      · exact ⟨q', z, h4⟩
    have := sumP_mono (P := P) (g := fun q' => (cnt (X.filter fun x => !decide (f x = some q)) f q' : Int)) (g' := fun q' => (cnt X f q' : Int)) fun q' _ => Int.ofNat_le.mpr (cnt_sub _)
    unfold sumP
    show (X.length : Int) ≤ ((X.filter fun p => decide (f p = some q)).length : Int) + _
    omega
theorem cnt_le_all {f : Int → Option Pr} : ∀ (P : List Pr) (X : List Int), P.Nodup → sumP (fun q => (cnt X f q : Int)) P ≤ (X.length : Int)
  | [], X, _ => by unfold sumP; omega
  | q :: P, X, hn => by
    have e := split_len X fun p => decide (f p = some q)
    have hn := List.nodup_cons.mp hn
    have ih := cnt_le_all (f := f) P (X.filter fun x => !decide (f x = some q)) hn.2
    have := sumP_mono (P := P) (g := fun q' => (cnt X f q' : Int)) (g' := fun q' => (cnt (X.filter fun x => !decide (f x = some q)) f q' : Int)) fun q' hq' => by
      have ne : q' ≠ q := fun z => hn.1 (by rw [← z]; exact hq')
      have : cnt X f q' = cnt (X.filter fun x => !decide (f x = some q)) f q' := by
        unfold cnt
        rw [List.filter_filter]
        congr 1
        refine List.filter_congr fun x _ => ?_
        by_cases z : f x = some q'
        · have : f x ≠ some q := fun y => ne (Option.some.inj (z.symm.trans y))
          simp [z, ne]
        · simp [z]
      rw [this]
      exact Int.le_refl _
    unfold sumP
    show ((X.filter fun p => decide (f p = some q)).length : Int) + _ ≤ _
    omega
/-! ### where a word stands in a dealing -/
def idxOf : Nat → List (Option Pr) → Option Pr → List Int
  | _, [], _ => []
  | n, x :: r, o => if x = o then (n : Int) :: idxOf (n + 1) r o else idxOf (n + 1) r o
theorem idxOf_cons (n : Nat) (x : Option Pr) (r : List (Option Pr)) (o : Option Pr) : idxOf n (x :: r) o = if x = o then (n : Int) :: idxOf (n + 1) r o else idxOf (n + 1) r o := rfl
theorem idxOf_mem {o : Option Pr} {x : Int} : ∀ {dl : List (Option Pr)} {n : Nat}, x ∈ idxOf n dl o ↔ ∃ p : Nat, x = ((n + p : Nat) : Int) ∧ dl[p]? = some o
  | [], n => by unfold idxOf; simp
  | y :: r, n => by
    have ih := idxOf_mem (o := o) (x := x) (dl := r) (n := n + 1)
    have key : (∃ p : Nat, x = ((n + p : Nat) : Int) ∧ (y :: r)[p]? = some o) ↔ (x = (n : Int) ∧ y = o) ∨ ∃ p : Nat, x = ((n + 1 + p : Nat) : Int) ∧ r[p]? = some o := by
      constructor
      · rintro ⟨p, h1, h2⟩
        cases p with
        | zero => exact .inl ⟨by simpa using h1, by simpa using h2⟩
        | succ p => exact .inr ⟨p, by rw [h1]; congr 1; omega, by simpa using h2⟩
      · rintro (⟨h1, h2⟩ | ⟨p, h1, h2⟩)
        · exact ⟨0, by simpa using h1, by simpa using h2⟩
        · exact ⟨p + 1, by rw [h1]; congr 1; omega, by simpa using h2⟩
    rw [key, ← ih, idxOf_cons]
    split
    · rename_i h
      rw [List.mem_cons]
      simp [h]
    · rename_i h
      simp [h]
theorem idxOf_len (o : Option Pr) : ∀ (dl : List (Option Pr)) (n : Nat), (idxOf n dl o).length = dl.count o
  | [], _ => rfl
  | y :: r, n => by
    rw [List.count_cons, idxOf_cons]
    split
    · rename_i h
      rw [List.length_cons, idxOf_len o r, h]; simp
    · rename_i h
      rw [idxOf_len o r]
      have : (y == o) = false := by rw [beq_eq_false_iff_ne]; exact h
      rw [this]; simp
theorem idxOf_nodup (o : Option Pr) : ∀ (dl : List (Option Pr)) (n : Nat), (idxOf n dl o).Nodup
  | [], _ => List.nodup_nil
  | y :: r, n => by
    rw [idxOf_cons]
    split
    · refine List.nodup_cons.mpr ⟨fun h => ?_, idxOf_nodup o r (n + 1)⟩
      obtain ⟨p, h1, _⟩ := idxOf_mem.mp h
      omega
    · exact idxOf_nodup o r (n + 1)
theorem idx0 {o : Option Pr} {x : Int} {dl : List (Option Pr)} : x ∈ idxOf 0 dl o ↔ ∃ p : Nat, x = (p : Int) ∧ dl[p]? = some o := by
  rw [idxOf_mem]
  exact ⟨fun ⟨p, h1, h2⟩ => ⟨p, by rw [h1]; congr 1; omega, h2⟩, fun ⟨p, h1, h2⟩ => ⟨p, by rw [h1]; congr 1; omega, h2⟩⟩
theorem at_of {dl : List (Option Pr)} {p : Nat} (h : p < dl.length) : dl[p]? = some (at_ dl (p : Int)) := by
  have := at_get (xs := dl) (k := (p : Int)) (by omega) (by omega)
  rw [Int.toNat_natCast] at this
  exact this
/-- pieces that stand at o, among X -/
theorem filt_le {dl : List (Option Pr)} {X : List Int} {n : Nat} (hX : Hold n X) (hl : dl.length = n) (o : Option Pr) : (X.filter fun p => decide (at_ dl p = o)).length ≤ dl.count o := by
  rw [← idxOf_len o dl 0]
  refine nodup_sub (hX.1.sublist List.filter_sublist) fun x hx => ?_
  obtain ⟨h1, h2⟩ := List.mem_filter.mp hx
  have := hX.2 x h1
  refine idx0.mpr ⟨x.toNat, by omega, ?_⟩
  rw [at_of (by omega), show ((x.toNat : Nat) : Int) = x by omega, of_decide_eq_true h2]
theorem filt_ge {dl : List (Option Pr)} {X : List Int} (o : Option Pr) (h : ∀ m : Nat, dl[m]? = some o → (m : Int) ∈ X) : dl.count o ≤ (X.filter fun p => decide (at_ dl p = o)).length := by
  rw [← idxOf_len o dl 0]
  refine nodup_sub (idxOf_nodup o dl 0) fun x hx => ?_
  obtain ⟨p, rfl, h2⟩ := idx0.mp hx
  exact List.mem_filter.mpr ⟨h p h2, decide_eq_true (at_eq rfl h2)⟩
/-! ### pairs, places -/
def pairsP (n : Nat) : List Pr := (List.range n).flatMap fun a => (List.range (n - (a + 1))).map fun j => ((a : Int), ((a + 1 + j : Nat) : Int))
theorem pairsP_prD (n : Nat) : pairsL n = (pairsP n).map prD := by
  unfold pairsL rowP pairsP
  rw [List.map_flatMap]
  congr 1
  funext a
  rw [List.map_map]
  rfl
theorem pairsP_mem {n : Nat} {q : Pr} : q ∈ pairsP n ↔ 0 ≤ q.1 ∧ q.1 < q.2 ∧ q.2 < (n : Int) := by
  unfold pairsP
  rw [List.mem_flatMap]
  constructor
  · rintro ⟨a, ha, h⟩
    obtain ⟨j, hj, rfl⟩ := List.mem_map.mp h
    rw [List.mem_range] at ha hj
    exact ⟨by simp, by simp; omega, by simp; omega⟩
  · rintro ⟨h1, h2, h3⟩
    obtain ⟨x, y⟩ := q
    simp only at h1 h2 h3
    refine ⟨x.toNat, List.mem_range.mpr (by omega), List.mem_map.mpr ⟨(y - x - 1).toNat, List.mem_range.mpr (by omega), ?_⟩⟩
    ext <;> simp <;> omega
theorem pairsP_nodup (n : Nat) : (pairsP n).Nodup := by
  unfold pairsP List.Nodup
  rw [List.pairwise_flatMap]
  refine ⟨fun a _ => ?_, ?_⟩
  · rw [List.pairwise_map]
    exact List.nodup_range.imp fun h z => h (by have := (Prod.mk.inj z).2; omega)
  · refine List.nodup_range.imp fun h x hx y hy z => h ?_
    obtain ⟨j, _, rfl⟩ := List.mem_map.mp hx
    obtain ⟨j', _, rfl⟩ := List.mem_map.mp hy
    have := (Prod.mk.inj z).1
    omega
def touch (hs : List (List Int)) (L : List Int) (q : Pr) : Bool := L.any fun p => (at_ hs p).contains q.1 && (at_ hs p).contains q.2
theorem touch_iff {hs : List (List Int)} {L : List Int} {q : Pr} : touch hs L q = true ↔ ∃ p ∈ L, q.1 ∈ at_ hs p ∧ q.2 ∈ at_ hs p := by
  unfold touch
  simp [List.any_eq_true]
def gP (caps : List Int) (hs : List (List Int)) (L : List Int) (q : Pr) : Int := if touch hs L q = true then roomOf caps q else 0
def placesP (caps : List Int) (hs : List (List Int)) (L : List Int) : Int := sumP (gP caps hs L) (pairsP caps.length)
section
variable {caps : List Int} {hs : List (List Int)} {m : Nat}
theorem room_nn (ok : PoolOk caps hs m) {q : Pr} (h : InR caps q) : 0 ≤ roomOf caps q := by
  have f : ∀ k : Int, 0 ≤ k → k < (caps.length : Nat) → 0 ≤ capAt caps k := fun k h0 h1 => by
    unfold capAt
    rw [List.getElem?_eq_getElem (by omega)]
    exact (ok.c0 _ (List.getElem_mem _)).1
  unfold roomOf
  have := f _ h.1.1 h.1.2
  have := f _ h.2.1 h.2.2
  split <;> omega
theorem hs_at {p : Nat} (h : p < hs.length) : hs[p]? = some (at_ hs (p : Int)) := by
  have := at_get (xs := hs) (k := (p : Int)) (by omega) (by omega)
  rw [Int.toNat_natCast] at this
  exact this
/-- a dealing's pieces of a lot have places -/
theorem reach (ok : PoolOk caps hs m) {dl : List (Option Pr)} (dk : DealOk caps hs dl) {L : List Int} (hL : Hold hs.length L) : ((L.filter fun p => !decide (at_ dl p = none)).length : Int) ≤ placesP caps hs L := by
  have hl := dk.len
  have inL : ∀ x ∈ L, dl[x.toNat]? = some (at_ dl x) := fun x hx => by
    have := hL.2 x hx
    exact at_get (by omega) (by omega)
  have hol : ∀ x ∈ L, ∀ q, at_ dl x = some q → q.1 ∈ at_ hs x ∧ q.2 ∈ at_ hs x ∧ q.1 < q.2 ∧ InR caps q := fun x hx q e => by
    have h1 := inL x hx
    rw [e] at h1
    obtain ⟨h, h2, h3⟩ := dk.held _ _ h1
    have ha := ok.asc h (List.mem_of_getElem? h2)
    have := (heldP_mem ha q).mp h3
    have h0 := hL.2 x hx
    rw [show at_ hs x = h from at_eq (m := x.toNat) (by omega) h2]
    exact ⟨this.1, this.2.1, this.2.2.1, held_in ha h3⟩
  have hX : Hold hs.length (L.filter fun p => !decide (at_ dl p = none)) := ⟨hL.1.sublist List.filter_sublist, fun k hk => hL.2 k (List.mem_filter.mp hk).1⟩
  refine Int.le_trans (cnt_all (f := at_ dl) (pairsP caps.length) _ fun x hx => ?_) (sumP_mono fun q hq => ?_)
  · obtain ⟨h1, h2⟩ := List.mem_filter.mp hx
    cases e : at_ dl x with
    | none => rw [e] at h2; simp at h2
    | some q =>
      obtain ⟨_, _, h3, h4⟩ := hol x h1 q e
      exact ⟨q, pairsP_mem.mpr ⟨h4.1.1, h3, h4.2.2⟩, rfl⟩
  · have hq2 := pairsP_mem.mp hq
    have hr := room_nn ok (q := q) ⟨⟨hq2.1, by omega⟩, ⟨by omega, hq2.2.2⟩⟩
    show (cnt _ _ _ : Int) ≤ gP caps hs L q
    by_cases z : cnt (L.filter fun p => !decide (at_ dl p = none)) (at_ dl) q = 0
    · rw [z]; unfold gP; split <;> omega
    · have hle : cnt (L.filter fun p => !decide (at_ dl p = none)) (at_ dl) q ≤ dl.count (some q) := filt_le hX hl (some q)
      obtain ⟨x, hx⟩ := List.exists_mem_of_length_pos (l := (L.filter fun p => !decide (at_ dl p = none)).filter fun p => decide (at_ dl p = some q)) (Nat.pos_of_ne_zero z)
      obtain ⟨h1, h2⟩ := List.mem_filter.mp hx
      have h3 := (List.mem_filter.mp h1).1
      obtain ⟨a1, a2, _, _⟩ := hol x h3 q (of_decide_eq_true h2)
      unfold gP
      rw [if_pos (touch_iff.mpr ⟨x, h3, a1, a2⟩)]
      rcases dk.room q with h | h
      · omega
      · omega
/-- the lot of a failed search -/
def lotT (dl : List (Option Pr)) (S : List Int) (K : List Pr) (n : Nat) : Bool := match at_ dl (n : Int) with
  | none => S.contains (n : Int)
  | some q => K.contains q
theorem stuck_lot (ok : PoolOk caps hs m) {dl : List (Option Pr)} (hl : dl.length = hs.length) {S : List Int} {K : List Pr} (st : Stuck caps hs dl S K) :
    placesP caps hs (pickI hs.length (lotT dl S K)) + ((pickI hs.length (fun n => decide (at_ dl (n : Int) = none) && S.contains (n : Int))).length : Int) ≤ ((pickI hs.length (lotT dl S K)).length : Int) := by
  have hL : Hold hs.length _ := Asc.hold (pickI_asc hs.length (lotT dl S K))
  have mem : ∀ x, x ∈ pickI hs.length (lotT dl S K) ↔ ∃ n : Nat, x = (n : Int) ∧ n < hs.length ∧ lotT dl S K n = true := fun x => pickI_mem
  generalize hLe : pickI hs.length (lotT dl S K) = L at hL mem
  have e := split_len L fun p => decide (at_ dl p = none)
  have hst : (pickI hs.length (fun n => decide (at_ dl (n : Int) = none) && S.contains (n : Int))).length ≤ (L.filter fun p => decide (at_ dl p = none)).length := by
    refine nodup_sub (Asc.hold (pickI_asc _ _)).1 fun x hx => ?_
    obtain ⟨n, rfl, h1, h2⟩ := pickI_mem.mp hx
    rw [Bool.and_eq_true] at h2
    refine List.mem_filter.mpr ⟨(mem _).mpr ⟨n, rfl, h1, ?_⟩, h2.1⟩
    unfold lotT
    rw [of_decide_eq_true h2.1]
    exact h2.2
  have hpl : placesP caps hs L ≤ ((L.filter fun x => !decide (at_ dl x = none)).length : Int) := by
    refine Int.le_trans (sumP_mono (g' := fun q => (cnt (L.filter fun x => !decide (at_ dl x = none)) (at_ dl) q : Int)) fun q hq => ?_) (cnt_le_all _ _ (pairsP_nodup _))
    have hq2 := pairsP_mem.mp hq
    show gP caps hs L q ≤ (cnt _ _ _ : Int)
    unfold gP
    split
    · rename_i ht
      obtain ⟨x, hx, h1, h2⟩ := touch_iff.mp ht
      obtain ⟨n, rfl, hn, hT⟩ := (mem x).mp hx
      by_cases hr : 0 < roomOf caps q
      · have eh := hs_at (hs := hs) hn
        have hh : q ∈ heldP caps (hs[n]?.getD []) := by
          rw [eh]
          exact (heldP_mem (ok.asc _ (List.mem_of_getElem? eh)) q).mpr ⟨h1, h2, hq2.2.1, hr⟩
        have ed := at_of (dl := dl) (p := n) (by omega)
        have hK : q ∈ K := by
          unfold lotT at hT
          cases eo : at_ dl (n : Int) with
          | none =>
            rw [eo] at hT ed
            exact st.st n (by simpa using hT) ed q hh
          | some q' =>
            rw [eo] at hT ed
            exact st.sat n q' ed (by simpa using hT) q hh
        have := st.full q hK
        have hc : dl.count (some q) ≤ cnt (L.filter fun x => !decide (at_ dl x = none)) (at_ dl) q := filt_ge (some q) fun k hk => by
          have hkl := (List.getElem?_eq_some_iff.mp hk).1
          have ek : at_ dl (k : Int) = some q := at_eq rfl hk
          refine List.mem_filter.mpr ⟨(mem _).mpr ⟨k, rfl, by omega, ?_⟩, by rw [ek]; rfl⟩
          unfold lotT
          rw [ek]
          simpa using hK
        omega
      · omega
    · omega
  rw [hLe] at *
  omega
end
end Zc
end

section
set_option Elab.async false
set_option linter.all false
set_option maxRecDepth 100000
set_option maxHeartbeats 2000000
/-! The greatest number that can be dealt, as the laws count it. -/
namespace Zc
open PySem L2 Zk
def lotsL : Nat → List (List Int)
  | 0 => [[]]
  | n + 1 => lotsL n ++ (lotsL n).map fun l => l ++ [(n : Int)]
theorem pickI_succ (n : Nat) (T : Nat → Bool) : pickI (n + 1) T = pickI n T ++ if T n = true then [(n : Int)] else [] := by
  unfold pickI
  rw [List.range_succ, List.filter_append, List.map_append]
  congr 1
  cases h : T n <;> simp [List.filter_cons, h]
theorem lotsL_pick (T : Nat → Bool) : ∀ n : Nat, pickI n T ∈ lotsL n
  | 0 => List.mem_singleton.mpr rfl
  | n + 1 => by
    have ih := lotsL_pick T n
    rw [pickI_succ]
    unfold lotsL
    rw [List.mem_append]
    cases h : T n with
    | false => rw [if_neg (by simp), List.append_nil]; exact .inl ih
    | true => rw [if_pos rfl]; exact .inr (List.mem_map.mpr ⟨_, ih, rfl⟩)
theorem lotsL_hold : ∀ {n : Nat} {L : List Int}, L ∈ lotsL n → Hold n L
  | 0, L, h => by
    rw [List.mem_singleton.mp h]
    exact ⟨List.nodup_nil, fun k hk => by cases hk⟩
  | n + 1, L, h => by
    unfold lotsL at h
    rcases List.mem_append.mp h with h | h
    · have := lotsL_hold h
      exact ⟨this.1, fun k hk => by have := this.2 k hk; omega⟩
    · obtain ⟨l, h1, rfl⟩ := List.mem_map.mp h
      have ih := lotsL_hold h1
      refine ⟨?_, fun k hk => ?_⟩
      · rw [List.nodup_append]
        refine ⟨ih.1, by simp, fun a ha b hb z => ?_⟩
        have := (ih.2 a ha).2
        rw [List.mem_singleton.mp hb] at z
        omega
      · rcases List.mem_append.mp hk with z | z
        · have := ih.2 k z; omega
        · rw [List.mem_singleton.mp z]; omega
theorem lotsL_len : ∀ n : Nat, (lotsL n).length = 2 ^ n
  | 0 => rfl
  | n + 1 => by
    unfold lotsL
    rw [List.length_append, List.length_map, lotsL_len n, Nat.pow_succ]
    omega
def lackStep (caps : List Int) (hs : List (List Int)) (a : Int) (L : List Int) : Int := if (L.length : Int) - placesP caps hs L > a then (L.length : Int) - placesP caps hs L else a
def lackP (caps : List Int) (hs : List (List Int)) : Int := (lotsL hs.length).foldl (lackStep caps hs) 0
def mostP (caps : List Int) (hs : List (List Int)) : Int := (hs.length : Int) - lackP caps hs
section
variable {caps : List Int} {hs : List (List Int)} {m : Nat}
theorem lack_fold : ∀ (Ls : List (List Int)) (a : Int), a ≤ Ls.foldl (lackStep caps hs) a ∧ (∀ L ∈ Ls, (L.length : Int) - placesP caps hs L ≤ Ls.foldl (lackStep caps hs) a) ∧ (Ls.foldl (lackStep caps hs) a = a ∨ ∃ L ∈ Ls, Ls.foldl (lackStep caps hs) a = (L.length : Int) - placesP caps hs L)
  | [], a => ⟨Int.le_refl _, fun L h => (by cases h), .inl rfl⟩
  | L :: Ls, a => by
    obtain ⟨h1, h2, h3⟩ := lack_fold Ls (lackStep caps hs a L)
    have hs1 : a ≤ lackStep caps hs a L := by unfold lackStep; split <;> omega
    have hs2 : (L.length : Int) - placesP caps hs L ≤ lackStep caps hs a L := by unfold lackStep; split <;> omega
    have hs3 : lackStep caps hs a L = a ∨ lackStep caps hs a L = (L.length : Int) - placesP caps hs L := by unfold lackStep; split <;> simp
    rw [List.foldl_cons]
    refine ⟨by omega, fun L' h => ?_, ?_⟩
    · rcases List.mem_cons.mp h with z | z
      · rw [z]; omega
      · exact h2 L' z
    · rcases h3 with z | ⟨L', z1, z2⟩
      · rcases hs3 with y | y
        · exact .inl (z.trans y)
        · exact .inr ⟨L, List.mem_cons_self, z.trans y⟩
      · exact .inr ⟨L', List.mem_cons_of_mem _ z1, z2⟩
/-- how many are dealt -/
def dealt (dl : List (Option Pr)) : Int := (dl.length : Int) - (dl.count none : Nat)
theorem most_ge (ok : PoolOk caps hs m) {dl : List (Option Pr)} (dk : DealOk caps hs dl) : dealt dl ≤ mostP caps hs := by
  have hl := dk.len
  have hc := List.count_le_length (a := (none : Option Pr)) (l := dl)
  unfold mostP dealt lackP
  rcases (lack_fold (caps := caps) (hs := hs) (lotsL hs.length) 0).2.2 with z | ⟨L, h1, z⟩
  · rw [z]; omega
  · rw [z]
    have hL := lotsL_hold h1
    have h2 := reach ok dk hL
    have h3 := filt_le (dl := dl) hL hl none
    have h4 := split_len L fun p => decide (at_ dl p = none)
    omega
theorem most_le (ok : PoolOk caps hs m) {dl : List (Option Pr)} (hl : dl.length = hs.length) {S : List Int} {K : List Pr} (st : Stuck caps hs dl S K) :
    mostP caps hs ≤ (hs.length : Int) - ((pickI hs.length (fun n => decide (at_ dl (n : Int) = none) && S.contains (n : Int))).length : Int) := by
  have h := stuck_lot ok hl st
  have h2 := (lack_fold (caps := caps) (hs := hs) (lotsL hs.length) 0).2.1 _ (lotsL_pick (lotT dl S K) hs.length)
  unfold mostP lackP
  omega
/-- no walk from any piece: the dealing is a greatest -/
theorem most_all (ok : PoolOk caps hs m) {dl : List (Option Pr)} (hl : dl.length = hs.length) {S : List Int} {K : List Pr} (st : Stuck caps hs dl S K) (hS : ∀ n : Nat, n < hs.length → (n : Int) ∈ S) : mostP caps hs ≤ dealt dl := by
  have h := most_le ok hl st
  have : dl.count none ≤ (pickI hs.length (fun n => decide (at_ dl (n : Int) = none) && S.contains (n : Int))).length := by
    rw [← idxOf_len none dl 0]
    refine nodup_sub (idxOf_nodup none dl 0) fun x hx => ?_
    obtain ⟨p, rfl, h2⟩ := idx0.mp hx
    have hp := (List.getElem?_eq_some_iff.mp h2).1
    refine pickI_mem.mpr ⟨p, rfl, by omega, ?_⟩
    rw [show at_ dl (p : Int) = none from at_eq rfl h2, decide_eq_true rfl, Bool.true_and]
    simpa using hS p (by omega)
  unfold dealt
  omega
/-! ### some of the pieces -/
theorem cnt_map (I : List Int) (dl : List (Option Pr)) (o : Option Pr) : (I.map (at_ dl)).count o = (I.filter fun p => decide (at_ dl p = o)).length := by
  induction I with
  | nil => rfl
  | cons x I ih =>
    rw [List.map_cons, List.count_cons, List.filter_cons, ih]
    by_cases h : at_ dl x = o
    · simp [h]
    · simp [h]
theorem map_at {α : Type} [Inhabited α] {I : List Int} {xs : List α} {n : Nat} {a : α} (h : (I.map (at_ xs))[n]? = some a) : ∃ x, I[n]? = some x ∧ at_ xs x = a := by
  rw [List.getElem?_map] at h
  cases e : I[n]? with
  | none => rw [e] at h; cases h
  | some x => rw [e] at h; exact ⟨x, rfl, Option.some.inj h⟩
theorem DealOk.sel {dl : List (Option Pr)} (dk : DealOk caps hs dl) {I : List Int} (hI : Hold hs.length I) : DealOk caps (I.map (at_ hs)) (I.map (at_ dl)) where
  len := by rw [List.length_map, List.length_map]
  held n q h := by
    obtain ⟨x, h1, h2⟩ := map_at h
    have hx := hI.2 x (List.mem_of_getElem? h1)
    have hl := dk.len
    have ed : dl[x.toNat]? = some (some q) := by rw [← h2]; exact at_get (by omega) (by omega)
    obtain ⟨r, h3, h4⟩ := dk.held _ q ed
    refine ⟨r, ?_, h4⟩
    rw [List.getElem?_map, h1]
    exact congrArg some (at_eq (m := x.toNat) (by omega) h3)
  room q := by
    have h : (I.map (at_ dl)).count (some q) ≤ dl.count (some q) := by rw [cnt_map]; exact filt_le hI dk.len (some q)
    rcases dk.room q with z | z
    · exact .inl (by omega)
    · exact .inr (by omega)
theorem Stuck.sel {dl : List (Option Pr)} (hl : dl.length = hs.length) {S : List Int} {K : List Pr} (st : Stuck caps hs dl S K) {J : List Int} (hJ : ∀ (x : Int), x ∈ J → ∃ n : Nat, x = (n : Int) ∧ n < hs.length ∧ dl[n]? ≠ some none) (hA : ∀ (n : Nat) (q : Pr), dl[n]? = some (some q) → (n : Int) ∈ J)
    {p : Nat} (hp : (p : Int) ∈ S) (hn : dl[p]? = some none) : Stuck caps ((J ++ [(p : Int)]).map (at_ hs)) ((J ++ [(p : Int)]).map (at_ dl)) [(J.length : Int)] K := by
  have hpl := (List.getElem?_eq_some_iff.mp hn).1
  have row : ∀ (n : Nat) (x : Nat), (J ++ [(p : Int)])[n]? = some (x : Int) → x < hs.length → ((J ++ [(p : Int)]).map (at_ hs))[n]?.getD [] = hs[x]?.getD [] := fun n x h1 h2 => by
    rw [List.getElem?_map, h1, hs_at h2]; rfl
  refine ⟨st.nd, fun q hq => ?_, fun n h1 h2 q hq => ?_, fun n q h1 hq q' hq' => ?_⟩
  · have h := st.full q hq
    have : dl.count (some q) ≤ ((J ++ [(p : Int)]).map (at_ dl)).count (some q) := by
      rw [cnt_map]
      exact filt_ge (some q) fun k hk => List.mem_append_left _ (hA k q hk)
    omega
  · have : n = J.length := by have := List.mem_singleton.mp h1; omega
    subst this
    rw [row J.length p (by rw [List.getElem?_append_right (Nat.le_refl _), Nat.sub_self]; rfl) (by omega)] at hq
    exact st.st p hp hn q hq
  · obtain ⟨x, h2, h3⟩ := map_at h1
    have hx : ∃ k : Nat, x = (k : Int) ∧ k < hs.length := by
      rcases List.mem_append.mp (List.mem_of_getElem? h2) with z | z
      · obtain ⟨k, e, h, _⟩ := hJ x z; exact ⟨k, e, h⟩
      · exact ⟨p, List.mem_singleton.mp z, by omega⟩
    obtain ⟨k, rfl, hk⟩ := hx
    rw [row n k h2 hk] at hq'
    exact st.sat k q (by rw [at_of (by omega), h3]) hq q' hq'
/-- a dealing that deals them all -/
theorem most_full (ok : PoolOk caps hs m) {dl : List (Option Pr)} (dk : DealOk caps hs dl) (h : ∀ o ∈ dl, o ≠ none) : mostP caps hs = (hs.length : Int) := by
  have h1 := most_ge ok dk
  have h2 := (lack_fold (caps := caps) (hs := hs) (lotsL hs.length) 0).1
  have h3 : dl.count none = 0 := List.count_eq_zero.mpr fun z => h none z rfl
  have h4 := dk.len
  unfold dealt mostP lackP at *
  omega
end
end Zc
end

section
set_option Elab.async false
set_option linter.all false
set_option maxRecDepth 100000
set_option maxHeartbeats 2000000
/-! Who can be dealt: what a walk shows and what a failed search shows. -/
namespace Zc
open PySem L2 Zk
theorem filter_take {α : Type} [Inhabited α] (T : α → Bool) (xs : List α) : ∀ n : Nat, n ≤ xs.length → (pickI n fun i => T (at_ xs (i : Int))).map (at_ xs) = (xs.take n).filter T
  | 0, _ => rfl
  | n + 1, h => by
    have ih := filter_take T xs n (by omega)
    have e : xs[n]? = some (at_ xs (n : Int)) := by
      have := at_get (xs := xs) (k := (n : Int)) (by omega) (by omega)
      rw [Int.toNat_natCast] at this
      exact this
    rw [pickI_succ, List.map_append, take_succ e, List.filter_append, ← ih]
    congr 1
    cases hT : T (at_ xs (n : Int)) <;> simp [hT, List.filter_cons]
theorem filter_pick {α : Type} [Inhabited α] (T : α → Bool) (xs : List α) : (pickI xs.length fun i => T (at_ xs (i : Int))).map (at_ xs) = xs.filter T := by
  rw [filter_take T xs _ (Nat.le_refl _), List.take_of_length_le (Nat.le_refl _)]
theorem filter_pick_len {α : Type} [Inhabited α] (T : α → Bool) (xs : List α) : (xs.filter T).length = (pickI xs.length fun i => T (at_ xs (i : Int))).length := by
  rw [← filter_pick T xs, List.length_map]
theorem dealt_filter (dl : List (Option Pr)) : dealt dl = ((dl.filter fun o => !decide (o = none)).length : Int) := by
  have h := split_len dl fun o => decide (o = none)
  have h2 : (dl.filter fun o => decide (o = none)).length = dl.count none := by
    rw [List.count_eq_length_filter]
    congr 1
    refine List.filter_congr fun o _ => ?_
    cases o <;> rfl
  unfold dealt
  omega
/-- the pieces that are dealt -/
def dealtI (n : Nat) (dl : List (Option Pr)) : List Int := pickI n fun i => !decide (at_ dl (i : Int) = none)
section
variable {caps : List Int} {hs : List (List Int)} {m : Nat}
theorem dealt_len {dl : List (Option Pr)} (hl : dl.length = hs.length) : dealt dl = ((dealtI hs.length dl).length : Int) := by
  rw [dealt_filter, filter_pick_len, hl]; rfl
structure Mode (caps : List Int) (hs : List (List Int)) (M : Int) : Prop where
  ge : ∀ dl : List (Option Pr), DealOk caps hs dl → dealt dl ≤ M
  le : ∀ (dl : List (Option Pr)) (S : List Int) (K : List Pr), DealOk caps hs dl → Stuck caps hs dl S K → (∀ n : Nat, n < hs.length → (n : Int) ∈ S) → M ≤ dealt dl
structure Able (caps : List Int) (hs : List (List Int)) (dl : List (Option Pr)) (ab : List Int) : Prop where
  walk : ∀ (sts : Steps) (s : Int × Pr), dueB caps hs dl sts = true → sts.head? = some s → s.1 ∈ ab
  stuck : ∀ (S : List Int) (K : List Pr) (n : Nat), Stuck caps hs dl S K → (n : Int) ∈ S → n < hs.length → (n : Int) ∉ ab
theorem mode_most (ok : PoolOk caps hs m) : Mode caps hs (mostP caps hs) := ⟨fun dl dk => most_ge ok dk, fun dl S K dk st h => most_all ok dk.len st h⟩
theorem walk_head {dl : List (Option Pr)} {sts : Steps} {s : Int × Pr} (hd : dueB caps hs dl sts = true) (h : sts.head? = some s) : ∃ (n : Nat), s.1 = (n : Int) ∧ n < hs.length ∧ dl[n]? = some none ∧ s.2 ∈ heldP caps (hs[n]?.getD []) := by
  cases sts with
  | nil => cases h
  | cons t r =>
    cases h
    unfold dueB at hd
    by_cases ok : StepOk caps hs dl none [] s
    · obtain ⟨h1, _, h3, h4, _⟩ := ok
      exact ⟨s.1.toNat, by omega, by omega, h3, h4⟩
    · rw [walkB_no ok] at hd; cases hd
theorem walk_rng {dl : List (Option Pr)} {sts : Steps} (hd : dueB caps hs dl sts = true) : ∀ s ∈ sts, 0 ≤ s.1 ∧ s.1 < (hs.length : Nat) := fun s hs' => by
  unfold dueB at hd
  split at hd
  · rename_i q hw
    obtain ⟨p, h, h1, h2, _⟩ := walkB_mem hw s hs'
    have := (List.getElem?_eq_some_iff.mp h2).1
    omega
  · cases hd
theorem dueB_ne {dl : List (Option Pr)} {sts : Steps} (hd : dueB caps hs dl sts = true) : 0 < sts.length := by
  cases sts with
  | nil => unfold dueB walkB at hd; cases hd
  | cons s r => rw [List.length_cons]; omega
/-- a walk taken deals one piece more -/
theorem taken_more {dl : List (Option Pr)} {sts : Steps} (hd : dueB caps hs dl sts = true) : dealt (putAll dl sts) = dealt dl + 1 := by
  unfold dueB at hd
  split at hd
  · rename_i q hw
    have c := walk_count none hw (cd := dl) fun p _ => rfl
    have e0 : one none none = 1 := rfl
    have e1 : one (some q) none = 0 := rfl
    have hl := putAll_len sts dl
    unfold dealt
    rw [hl]
    omega
  · cases hd
theorem taken_still {dl : List (Option Pr)} (hl : dl.length = hs.length) {sts : Steps} (hd : dueB caps hs dl sts = true) {n : Nat} (hn : n < hs.length) (h : at_ dl (n : Int) ≠ none ∨ ∃ s, sts.head? = some s ∧ s.1 = (n : Int)) : at_ (putAll dl sts) (n : Int) ≠ none := by
  have g := putAll_get sts dl n fun s h => by rw [hl]; exact walk_rng hd s h
  by_cases z : (n : Int) ∈ sts.map (·.1)
  · obtain ⟨q, e⟩ := g.1 z
    rw [show at_ (putAll dl sts) (n : Int) = some q from at_eq rfl e]
    simp
  · have e := g.2 z
    rcases h with h | ⟨s, h1, h2⟩
    · rw [at_of (dl := dl) (by rw [hl]; exact hn)] at e
      rw [show at_ (putAll dl sts) (n : Int) = at_ dl (n : Int) from at_eq rfl e]
      exact h
    · refine absurd (List.mem_map.mpr ⟨s, ?_, h2⟩) z
      cases sts with
      | nil => cases h1
      | cons t r => cases h1; exact List.mem_cons_self
theorem dealtI_mem {dl : List (Option Pr)} {x : Int} : x ∈ dealtI hs.length dl ↔ ∃ n : Nat, x = (n : Int) ∧ n < hs.length ∧ at_ dl (n : Int) ≠ none := by
  unfold dealtI
  rw [pickI_mem]
  simp
theorem hold_snoc {dl : List (Option Pr)} {n : Nat} (hn : n < hs.length) (h0 : at_ dl (n : Int) = none) : Hold hs.length (dealtI hs.length dl ++ [(n : Int)]) := by
  have hd := Asc.hold (pickI_asc hs.length fun i => !decide (at_ dl (i : Int) = none))
  refine ⟨?_, fun k hk => ?_⟩
  · rw [List.nodup_append]
    refine ⟨hd.1, by simp, fun a ha b hb z => ?_⟩
    obtain ⟨i, h1, _, h3⟩ := (dealtI_mem (hs := hs)).mp ha
    have := List.mem_singleton.mp hb
    have : i = n := by omega
    rw [this] at h3
    exact h3 h0
  · rcases List.mem_append.mp hk with z | z
    · exact hd.2 k z
    · rw [List.mem_singleton.mp z]; omega
/-- n can be dealt beside all that are dealt -/
theorem able_walk {dl : List (Option Pr)} (ok : ∀ hs' : List (List Int), (∀ h ∈ hs', h ∈ hs) → ∃ m, PoolOk caps hs' m) (dk : DealOk caps hs dl) {sts : Steps} {s : Int × Pr} (hd : dueB caps hs dl sts = true) (hh : sts.head? = some s) {n : Nat} (e : s.1 = (n : Int)) (hn : n < hs.length) (h0 : at_ dl (n : Int) = none) :
    mostP caps ((dealtI hs.length dl ++ [(n : Int)]).map (at_ hs)) = ((dealtI hs.length dl).length : Int) + 1 := by
  have hI := hold_snoc (hs := hs) hn h0
  have dk2 := (taken_ok dk hd).sel hI
  obtain ⟨m, ok2⟩ := ok ((dealtI hs.length dl ++ [(n : Int)]).map (at_ hs)) fun h hx => by
    obtain ⟨k, hk, rfl⟩ := List.mem_map.mp hx
    have := hI.2 k hk
    exact at_mem this.1 this.2
  rw [most_full ok2 dk2 fun o ho => ?_, List.length_map, List.length_append, List.length_singleton]
  · rfl
  · obtain ⟨k, hk, rfl⟩ := List.mem_map.mp ho
    rcases List.mem_append.mp hk with z | z
    · obtain ⟨i, rfl, h2, h3⟩ := (dealtI_mem (hs := hs)).mp z
      exact taken_still dk.len hd h2 (.inl h3)
    · rw [List.mem_singleton.mp z]
      exact taken_still dk.len hd hn (.inr ⟨s, hh, e⟩)
theorem able_stuck {dl : List (Option Pr)} (ok : ∀ hs' : List (List Int), (∀ h ∈ hs', h ∈ hs) → ∃ m, PoolOk caps hs' m) (hl : dl.length = hs.length) {S : List Int} {K : List Pr} (st : Stuck caps hs dl S K) {n : Nat} (hS : (n : Int) ∈ S) (hn : n < hs.length) (h0 : at_ dl (n : Int) = none) :
    mostP caps ((dealtI hs.length dl ++ [(n : Int)]).map (at_ hs)) ≠ ((dealtI hs.length dl).length : Int) + 1 := by
  have hI := hold_snoc (hs := hs) hn h0
  obtain ⟨m, ok2⟩ := ok ((dealtI hs.length dl ++ [(n : Int)]).map (at_ hs)) fun h hx => by
    obtain ⟨k, hk, rfl⟩ := List.mem_map.mp hx
    have := hI.2 k hk
    exact at_mem this.1 this.2
  have en : dl[n]? = some none := by rw [at_of (by omega), h0]
  have st2 := st.sel hl (J := dealtI hs.length dl) (fun x hx => by
    obtain ⟨i, e, h2, h3⟩ := (dealtI_mem (hs := hs)).mp hx
    exact ⟨i, e, h2, fun z => h3 (at_eq rfl z)⟩) (fun k q hk => (dealtI_mem (hs := hs)).mpr ⟨k, rfl, by have := (List.getElem?_eq_some_iff.mp hk).1; omega, by rw [show at_ dl (k : Int) = some q from at_eq rfl hk]; simp⟩) hS en
  have h := most_le ok2 (by rw [List.length_map, List.length_map]) st2
  rw [List.length_map, List.length_append, List.length_singleton] at h
  have : 1 ≤ (pickI ((dealtI hs.length dl).length + 1) fun i => decide (at_ ((dealtI hs.length dl ++ [(n : Int)]).map (at_ dl)) (i : Int) = none) && [((dealtI hs.length dl).length : Int)].contains (i : Int)).length := by
    refine List.length_pos_of_mem (a := ((dealtI hs.length dl).length : Int)) (pickI_mem.mpr ⟨_, rfl, by omega, ?_⟩)
    rw [show at_ ((dealtI hs.length dl ++ [(n : Int)]).map (at_ dl)) ((dealtI hs.length dl).length : Int) = none from at_eq rfl (by rw [List.getElem?_map, List.getElem?_append_right (Nat.le_refl _), Nat.sub_self]; exact congrArg some h0)]
    simp
  omega
/-! ### pools that a dealing fills -/
theorem held_two (ok : PoolOk caps hs m) {n : Nat} (hn : n < hs.length) {q : Pr} (h : q ∈ heldP caps (hs[n]?.getD [])) : 1 < (at_ hs (n : Int)).length := by
  rw [hs_at hn] at h
  have ha := ok.asc _ (List.mem_of_getElem? (hs_at hn))
  have := (heldP_mem ha q).mp h
  exact two_len ha this.1 this.2.1 this.2.2.1
structure Rich (caps : List Int) (hs : List (List Int)) : Prop where
  ex : ∃ dl : List (Option Pr), IsDeal caps hs dl ∧ ∀ (p : Nat) (h : List Int), hs[p]? = some h → (dl[p]? = some none ↔ h.length ≤ 1)
theorem rich_stuck (ok : PoolOk caps hs m) (r : Rich caps hs) {dl : List (Option Pr)} (dk : DealOk caps hs dl) {S : List Int} {K : List Pr} (st : Stuck caps hs dl S K) {n : Nat} (hS : (n : Int) ∈ S) (hn : n < hs.length) (h0 : at_ dl (n : Int) = none) : (at_ hs (n : Int)).length ≤ 1 := by
  refine Nat.le_of_not_lt fun hlt => ?_
  obtain ⟨ds, hd, hx⟩ := r.ex
  have dk2 : DealOk caps hs ds := DealOk.of ok hd fun q hq => by
    have h1 := hd.room q hq
    have h2 := List.count_pos_iff.mpr hq
    omega
  have st1 : Stuck caps hs dl [(n : Int)] K := ⟨st.nd, st.full, fun k hk => st.st k (by rw [List.mem_singleton.mp hk]; exact hS), st.sat⟩
  have h1 := stuck_lot ok dk.len st1
  have hL := Asc.hold (pickI_asc hs.length (lotT dl [(n : Int)] K))
  have h2 := reach ok dk2 hL
  have h3 : (pickI hs.length (lotT dl [(n : Int)] K)).filter (fun p => !decide (at_ ds p = none)) = pickI hs.length (lotT dl [(n : Int)] K) := List.filter_eq_self.mpr fun x hx' => by
    obtain ⟨i, rfl, hi, hT⟩ := pickI_mem.mp hx'
    have two : 1 < (at_ hs (i : Int)).length := by
      unfold lotT at hT
      cases eo : at_ dl (i : Int) with
      | none =>
        rw [eo] at hT
        have hT : [(n : Int)].contains (i : Int) = true := hT
        have : i = n := by
          have h' : (i : Int) = (n : Int) := by simpa using hT
          omega
        rw [this]; exact hlt
      | some q =>
        have ed := at_of (dl := dl) (p := i) (by rw [dk.len]; exact hi)
        rw [eo] at ed
        obtain ⟨h, e1, e2⟩ := dk.held i q ed
        exact held_two ok hi (q := q) (by rw [e1]; exact e2)
    have : at_ ds (i : Int) ≠ none := fun z => by
      have := (hx i _ (hs_at hi)).mp (by rw [at_of (by rw [hd.len]; exact hi), z])
      omega
    simp [this]
  rw [h3] at h2
  have : 1 ≤ (pickI hs.length fun k => decide (at_ dl (k : Int) = none) && [(n : Int)].contains (k : Int)).length := by
    refine List.length_pos_of_mem (a := (n : Int)) (pickI_mem.mpr ⟨_, rfl, hn, ?_⟩)
    rw [h0]; simp
  omega
theorem mode_rich (ok : PoolOk caps hs m) (r : Rich caps hs) : Mode caps hs ((hs.filter fun h => decide (1 < h.length)).length : Int) := by
  have e := filter_pick_len (fun h : List Int => decide (1 < h.length)) hs
  refine ⟨fun dl dk => ?_, fun dl S K dk st hS => ?_⟩
  · rw [dealt_len dk.len, e]
    refine Int.ofNat_le.mpr (nodup_sub (Asc.hold (pickI_asc _ _)).1 fun x hx => ?_)
    obtain ⟨i, rfl, hi, h3⟩ := (dealtI_mem (hs := hs)).mp hx
    refine pickI_mem.mpr ⟨i, rfl, hi, decide_eq_true ?_⟩
    cases eo : at_ dl (i : Int) with
    | none => exact absurd eo h3
    | some q =>
      have ed := at_of (dl := dl) (p := i) (by rw [dk.len]; exact hi)
      rw [eo] at ed
      obtain ⟨h, e1, e2⟩ := dk.held i q ed
      exact held_two ok hi (q := q) (by rw [e1]; exact e2)
  · rw [dealt_len dk.len, e]
    refine Int.ofNat_le.mpr (nodup_sub (Asc.hold (pickI_asc _ _)).1 fun x hx => ?_)
    obtain ⟨i, rfl, hi, h3⟩ := pickI_mem.mp hx
    refine (dealtI_mem (hs := hs)).mpr ⟨i, rfl, hi, fun z => ?_⟩
    have := rich_stuck ok r dk st (hS i hi) hi z
    have := of_decide_eq_true h3
    omega
end
end Zc
end

section
set_option Elab.async false
set_option linter.all false
set_option maxRecDepth 100000
set_option maxHeartbeats 2000000
/-! Greatest dealings, as the program makes them. -/
namespace Zc
open PySem L2 Zk
def t_holds_pair (c : Cs) : SF :=
 (sSeq (sAsg (dVar 2) (dgTup 2 (dgCons (dName 3) (dgCons (dName 4) dgNil))))
 (sSeq (sAsg (d2 ixD (d1 (fldD c.Pool "holders") (dVar 0)) (dVar 1)) (dName 5))
 (sRet (dAndV (d2 ltD (dVar 3) (dVar 4)) (dAndV (d2 inD (dVar 3) (dVar 5)) (d2 inD (dVar 4) (dVar 5)))))))
def g_holds_pair (c : Cs) : PF := runG 3 (t_holds_pair c)
def t_is_dealing (c : Cs) : SF :=
 (sSeq (sIf (tDt blD (d2 neD (dN lenD (aCons (dVar 1) aNil)) (d1 (fldD c.Pool "pieces") (dVar 0))))
 (sRet (dC (.bl false)))
 sNext)
 (sSeq (sAsgO (fun _ => some (.dct [])) 2)
 (sSeq (sFor (dEnum (aCons (dVar 1) aNil)) (dgTup 2 (dgCons (dName 3) (dgCons (dName 4) dgNil)))
 (sIf (tDt blD (d2 isntD (dVar 4) (dC .non)))
 (sSeq (sIf (dNotT (tDt truD (dCall 3 (g_holds_pair c) (aCons (dVar 0) (aCons (dVar 3) (aCons (dVar 4) aNil))))))
 (sRet (dC (.bl false)))
 sNext)
 (sPutO 2 (dVar 4) (d2 addD (dGetO 2 (dVar 4) (dC (.int 0))) (dC (.int 1)))))
 sNext))
 (sRet (dN allD (aCons (dLcIt 2 (dgTup 2 (dgCons (dName 4) (dgCons (dName 5) dgNil))) dYes (d2 leD (dVar 5) (dCall 2 (g_pair_room c) (aCons (dVar 0) (aCons (dVar 4) aNil)))) [4, 5]) aNil))))))
def g_is_dealing (c : Cs) : PF := runG 4 (t_is_dealing c)
def t_take_walk : SF :=
 (sSeq (sAsgO (dN listD (aCons (dVar 0) aNil)) 2)
 (sSeq (sFor (dItems (dVar 1)) (dgTup 2 (dgCons (dName 3) (dgCons (dName 4) dgNil)))
 (sSetI 2 (dVar 3) (dVar 4)))
 (sRetV 2)))
def g_take_walk : PF := runG 3 (t_take_walk)
def t_greatest_dealing (c : Cs) : SF :=
 (sSeq (sAsg (dIf (tDt blD (d2 isD (dVar 1) (dC .non))) (d2 mulD (dN mkLst (aCons (dC .non) aNil)) (d1 (fldD c.Pool "pieces") (dVar 0))) (dN listD (aCons (dVar 1) aNil))) (dName 2))
 (sSeq (sIf (dNotT (tDt truD (dCall 2 (g_is_dealing c) (aCons (dVar 0) (aCons (dVar 2) aNil)))))
 sNever
 sNext)
 (sSeq (sAsg (dCallD 3 [.non] (g_find_walk c) (aCons (dVar 0) (aCons (dVar 2) aNil))) (dName 3))
 (sSeq (sWhile (tDt blD (d2 isntD (dVar 3) (dC .non)))
 (sSeq (sAsg (dCall 2 (g_take_walk) (aCons (dVar 2) (aCons (dVar 3) aNil))) (dName 2))
 (sAsg (dCallD 3 [.non] (g_find_walk c) (aCons (dVar 0) (aCons (dVar 2) aNil))) (dName 3))))
 (sRet (dVar 2))))))
def g_greatest_dealing (c : Cs) : PF := runG 2 (t_greatest_dealing c)
local macro_rules | `(tactic| walk_at "zs") => `(tactic| simp only [beq_self_eq_true, Bool.or_false, Bool.false_or, Bool.true_or, Bool.or_true, Bool.and_false, Bool.false_and, Bool.true_and, Bool.and_true, Zc.isi_ii, Zc.isi_ib, Zc.isi_tt, Zc.isi_ll, Zc.rowsT_len, Zc.rowsL_len, Zc.is_integer_call, Zc.ix_p0, Zc.ix_p1, dgTup2_a, dgTup3_a, Bool.not_true, Bool.not_false, mul_lz, List.flatten_cons, List.flatten_nil, Int.reduceToNat, add_ll, pow10_12, pow10_18, pow10_39, pow10_41, pow10_59, pow10_60, mkLst_some, mkTup_some, List.length_cons, List.length_nil, Nat.zero_le, Nat.reduceAdd, Nat.reduceLeDiff, call1, callO1, call2, callO2, call3, callO3, call4, callO4, call5, callO5, call6, callO6, ap1_some, ap2_some, apN_some, apC_some, d1_a, d2_a, dN_a, aNil_a, aCons_a, dC_a, dVar_z, dVar_s, tDt_a, apAnd_t, apAnd_f, apOr_t, apOr_f, dAndT_a, dOrT_a, apNot_some, dNotT_a, apAndV_t, apAndV_f, dAndV_a, apOrV_t, apOrV_f, dOrV_a, apIf_t, apIf_f, dIf_a, apCh_t, apCh_f, apChain_some, dChain_a, apSeq_nx, apSeq_rt, apSeq_ct, apSeq_bk, sSeq_a, apIfS_t, apIfS_f, sIf_a, sNext_a, sCont_a, sBreak_a, apRet_some, sRet_a, apRetO_some, sRetO_a, sRetN_a, getO_z, getO_s, apRetV_some, sRetV_a, ltB_z, ltB_s, okSlot_s, apAsg_some, sAsg_a, dName_ok, apG_some, dgCons_a, dgNil_a, apAsgO_some, sAsgO_a, sApp_a, sSetI_a, apFor_some, sFor_a, dItems_a, dRng1_a, dRng2_a, apEn_some, apEn_tup, dEnum_a, sFrz_a, frzs_nil, frzs_cons, frzI_o, frzI_v, frzI_n, frzI_s, frz1_s, frzAll_nil, frzAll_o, frzAll_v, frzAll_n, peekT_a, apPk_int, apPk_bl, apPk_str, apPk_non, peekF_a, dCall_a, toO_o, dCallO_a, dMake_a, Wd_v, Wd_o, dSl_a, apSl_some, oNone_a, oSome_a, apO_some, add_ii, sub_ii, lt_ii, le_ii, gt_ii, ge_ii, eq_ii, ne_ii, neg_i, not_b, bl_b, tru_b, tru_i, tru_l, tru_t, tru_n, len_l, len_t, len_scr, abs_i, int_i, list_l, list_t, tuple_l, tuple_t, min_ii, max_ii, rev_l, items_l, items_t, iL_len, run_a, outW_rt, outW_nx, List.map_cons, List.map_nil, List.replicate, List.append_nil, List.cons_append, List.nil_append, List.set_cons_zero, List.set_cons_succ, Option.map_some])
local macro_rules | `(tactic| walk_at "zd") => `(tactic| first | ((with_reducible show okSlot _ _ = true); simp only [okSlot_s, ltB_z, ltB_s]; done) | omega | assumption | decide | (simp only [List.length_map, List.length_append, List.length_cons, List.length_nil, List.length_range, List.length_set, List.length_reverse, iL_len, Zc.rowsT_len, Zc.rowsL_len] at *; omega))
local macro_rules | `(tactic| walk_at "zz") => `(tactic| simp (disch := walk_at "zd") only [dgTup2_a, dgTup3_a, Bool.not_true, Bool.not_false, mul_lz, List.flatten_cons, List.flatten_nil, Int.reduceToNat, add_ll, pow10_12, pow10_18, pow10_39, pow10_41, pow10_59, pow10_60, mkLst_some, mkTup_some, List.length_cons, List.length_nil, Nat.zero_le, Nat.reduceAdd, Nat.reduceLeDiff, call1, callO1, call2, callO2, call3, callO3, call4, callO4, call5, callO5, call6, callO6, ap1_some, ap2_some, apN_some, apC_some, d1_a, d2_a, dN_a, aNil_a, aCons_a, dC_a, dVar_z, dVar_s, tDt_a, apAnd_t, apAnd_f, apOr_t, apOr_f, dAndT_a, dOrT_a, apNot_some, dNotT_a, apAndV_t, apAndV_f, dAndV_a, apOrV_t, apOrV_f, dOrV_a, apIf_t, apIf_f, dIf_a, apCh_t, apCh_f, apChain_some, dChain_a, apSeq_nx, apSeq_rt, apSeq_ct, apSeq_bk, sSeq_a, apIfS_t, apIfS_f, sIf_a, sNext_a, sCont_a, sBreak_a, apRet_some, sRet_a, apRetO_some, sRetO_a, sRetN_a, getO_z, getO_s, apRetV_some, sRetV_a, ltB_z, ltB_s, okSlot_s, apAsg_some, sAsg_a, dName_ok, apG_some, dgCons_a, dgNil_a, apAsgO_some, sAsgO_a, sApp_a, sSetI_a, apFor_some, sFor_a, dItems_a, dRng1_a, dRng2_a, apEn_some, apEn_tup, dEnum_a, sFrz_a, frzs_nil, frzs_cons, frzI_o, frzI_v, frzI_n, frzI_s, frz1_s, frzAll_nil, frzAll_o, frzAll_v, frzAll_n, peekT_a, apPk_int, apPk_bl, apPk_str, apPk_non, peekF_a, dCall_a, toO_o, dCallO_a, dMake_a, Wd_v, Wd_o, dSl_a, apSl_some, oNone_a, oSome_a, apO_some, add_ii, sub_ii, lt_ii, le_ii, gt_ii, ge_ii, eq_ii, ne_ii, neg_i, not_b, bl_b, tru_b, tru_i, tru_l, tru_t, tru_n, len_l, len_t, len_scr, abs_i, int_i, list_l, list_t, tuple_l, tuple_t, min_ii, max_ii, rev_l, items_l, items_t, iL_len, run_a, outW_rt, outW_nx, List.map_cons, List.map_nil, List.replicate, List.append_nil, List.cons_append, List.nil_append, List.set_cons_zero, List.set_cons_succ, Option.map_some, Int.reduceAdd, Int.reduceMul, Int.reduceSub, Int.reduceNeg, beq_self_eq_true, Bool.or_false, Bool.false_or, Bool.true_or, Bool.or_true, Bool.and_false, Bool.false_and, Bool.true_and, Bool.and_true, Zc.isi_ii, Zc.isi_ib, Zc.isi_tt, Zc.isi_ll, Zc.rowsT_len, Zc.rowsL_len, Zc.is_integer_call, Zc.ix_p0, Zc.ix_p1, apR1_any, Int.toNat_natCast, apR2_some, mod_ii, fdiv_ii, mul_small, apApp_some, ix_at, ix_atT, ix_atI, ix_atIT, ix_atR, ix_atRT, List.length_map, List.length_append, List.length_range, List.length_set, Option.map_none, Option.map_map, decide_true, decide_false, peekO_a, apPkO_i, frz_wo, frz_wv, frz_kk, wipeG_nil, wipeG_cons, orB_s, orB_t, orB_f, andB_s, andB_t, andB_f, orV_s, orV_t, orV_f, andV_s, andV_t, andV_f, apOr_b, apAnd_b, apOrV_b, apAndV_b, apCh_b, Zc.cut_from, Zc.cut_to, in_l, in_t, in_pr, eq_op_op, eq_op_pr, eq_pr_op, eq_pr_pr, ne_op_op, ne_op_pr, ne_pr_op, ne_pr_pr, isnt_op, is_op, pr_0, pr_1, st_0, st_1, inP_pr, ninP_pr, nin_l, isi_prt, len_pr, op_some, prD_eq, ix_lit2, ix_lit3, ix_lit4, ix_lit5, ix_lit6, ix_lit7, ix_lit8, ix_lit9, ix_lit10, ix_lit11, ix_lit12, ix_lit13, ix_lit14, ix_lit15, setI_i, setI_p, setI_o, setI_n, snoc_i, snoc_r, snoc_p, snoc_n, snoc_o, snoc_pp, snoc_s, eq_ol, ne_ol, eq_pl, ne_pl, eq_sl, ne_sl, eq_il, ne_il, eq_rl, ne_rl, eq_il1, isi_bb, eq_bb, ne_bb, dctAt_o, dctAt_v, dctAt_s, apDget_some, dGetO_a, apPut_some, sPutO_a])
local macro_rules | `(tactic| walk_at "zf") => `(tactic| first | (walk_at "zz"; done) | (walk_at "zz"; rfl) | rfl)
local macro_rules | `(tactic| walk_at "lc") => `(tactic| ((case hf => rfl); (case hi => first | (walk_at "zz"; done) | (walk_at "zz"; rfl) | rfl); (case hl => walk_at "zd"); (case h => (intro a ha; refine ⟨_, dName_ok rfl, ?_, fun hT => ?_⟩ <;> walk_at "zz" <;> rfl))))
local macro_rules | `(tactic| walk_at "lm") => `(tactic| ((case hf => rfl); (case hi => first | (walk_at "zz"; done) | (walk_at "zz"; rfl) | rfl); (case hl => walk_at "zd"); (case h => (intro a ha; refine ⟨_, dName_ok rfl, ?_⟩; walk_at "zz"; rfl))))
theorem holds_spec (c : Cs) {caps : List Int} {hs : List (List Int)} {p : Nat} {h : List Int} (eh : hs[p]? = some h) (q : Pr) :
    g_holds_pair c [poolD c caps hs, .int (p : Int), prD q] = some (.v (.bl (decide (q.1 < q.2 ∧ q.1 ∈ h ∧ q.2 ∈ h)))) := by
  unfold g_holds_pair t_holds_pair prD
  walk_at "zs"
  rw [fld_holders]
  walk_at "zs"
  rw [Zc.ix_rt eh]
  walk_at "zs"
  by_cases h1 : q.1 < q.2
  · rw [decide_eq_true h1]
    walk_at "zs"
    rw [in_t]
    by_cases h2 : q.1 ∈ h
    · rw [List.contains_iff_mem.mpr h2]
      walk_at "zs"
      rw [in_t]
      walk_at "zs"
      congr 3
      rw [Bool.eq_iff_iff, List.contains_iff_mem]
      simp [h1, h2]
    · rw [Bool.eq_false_iff.mpr fun z => h2 (List.contains_iff_mem.mp z)]
      walk_at "zs"
      simp [h2]
  · rw [decide_eq_false h1]
    walk_at "zs"
    simp [h1]
def setTk (tk : Tk) (q : Pr) (n : Int) : Tk := if q ∈ keys tk then tk.map (fun e => if e.1 = q then (e.1, n) else e) else tk ++ [(q, n)]
theorem setK_any (tk : Tk) (q : Pr) (n : Int) : setK (tkD tk) (prK q) (.int n) = tkD (setTk tk q n) := by
  unfold setTk
  by_cases h : q ∈ keys tk
  · rw [if_pos h]
    unfold setK
    have ha : ((tkD tk).any fun kv => decide (kv.1 = prK q)) = true := by
      obtain ⟨e, h1, h2⟩ := List.mem_map.mp h
      exact List.any_eq_true.mpr ⟨(prK e.1, .int e.2), List.mem_map.mpr ⟨e, h1, rfl⟩, decide_eq_true (by rw [← h2])⟩
    rw [if_pos ha]
    unfold tkD
    rw [List.map_map, List.map_map]
    refine List.map_congr_left fun e _ => ?_
    show (if prK e.1 = prK q then (prK e.1, D.int n) else (prK e.1, D.int e.2)) = _
    by_cases z : e.1 = q
    · rw [if_pos (by rw [z])]
      show _ = (prK (if e.1 = q then (e.1, n) else e).1, D.int (if e.1 = q then (e.1, n) else e).2)
      rw [if_pos z]
    · rw [if_neg fun y => z (prK_eq.mp y)]
      show _ = (prK (if e.1 = q then (e.1, n) else e).1, D.int (if e.1 = q then (e.1, n) else e).2)
      rw [if_neg z]
  · rw [if_neg h]; exact setK_tk n h
theorem setTk_keys (tk : Tk) (q : Pr) (n : Int) : keys (setTk tk q n) = if q ∈ keys tk then keys tk else keys tk ++ [q] := by
  unfold setTk
  by_cases h : q ∈ keys tk
  · rw [if_pos h, if_pos h]
    unfold keys
    rw [List.map_map]
    refine List.map_congr_left fun e _ => ?_
    show (if e.1 = q then (e.1, n) else e).1 = e.1
    split <;> rfl
  · rw [if_neg h, if_neg h]
    unfold keys
    rw [List.map_append]; rfl
/-- the counts of the first pieces -/
structure Given (dl : List (Option Pr)) (tk : Tk) : Prop where
  kn : (keys tk).Nodup
  val : ∀ e ∈ tk, e.2 = ((dl.count (some e.1) : Nat) : Int)
  no : ∀ q, q ∉ keys tk → dl.count (some q) = 0
  inn : ∀ q ∈ keys tk, some q ∈ dl
theorem Given.get {dl : List (Option Pr)} {tk : Tk} (g : Given dl tk) (q : Pr) : (getK (tkD tk) (prK q)).getD (.int 0) = .int ((dl.count (some q) : Nat) : Int) := by
  rw [getK_tk]
  cases h : tk.find? fun e => decide (e.1 = q) with
  | none =>
    have : q ∉ keys tk := fun z => by
      obtain ⟨e, h1, h2⟩ := List.mem_map.mp z
      exact List.find?_eq_none.mp h e h1 (decide_eq_true h2)
    rw [g.no q this]; rfl
  | some e =>
    have e1 : e.1 = q := of_decide_eq_true (List.find?_some (p := fun e : Pr × Int => decide (e.1 = q)) h)
    have := g.val e (List.mem_of_find?_eq_some h)
    show D.int e.2 = _
    rw [this, e1]
theorem Given.add {dl : List (Option Pr)} {tk : Tk} (g : Given dl tk) (q : Pr) : Given (dl ++ [some q]) (setTk tk q (((dl.count (some q) : Nat) : Int) + 1)) := by
  have cq : ∀ r : Pr, (dl ++ [some q]).count (some r) = dl.count (some r) + if r = q then 1 else 0 := fun r => by
    rw [List.count_append, List.count_singleton]
    congr 1
    by_cases h : r = q
    · rw [if_pos h, h]; simp
    · rw [if_neg h]; simp; exact fun z => h z.symm
  refine ⟨?_, fun e he => ?_, fun r hr => ?_, fun r hr => ?_⟩
  · rw [setTk_keys]
    split
    · exact g.kn
    · rename_i h
      rw [List.nodup_append]
      exact ⟨g.kn, by simp, fun a ha b hb z => h (by simp at hb; rw [← hb, ← z]; exact ha)⟩
  · rw [cq]
    unfold setTk at he
    split at he
    · obtain ⟨e0, h1, rfl⟩ := List.mem_map.mp he
      by_cases z : e0.1 = q
      · rw [if_pos z]
        show _ = ((dl.count (some e0.1) + (if e0.1 = q then 1 else 0) : Nat) : Int)
        rw [if_pos z, z]; omega
      · rw [if_neg z, if_neg z]
        exact g.val e0 h1
    · rename_i hn
      rcases List.mem_append.mp he with h1 | h1
      · have hne : e.1 ≠ q := fun z => hn (List.mem_map.mpr ⟨e, h1, z⟩)
        rw [if_neg hne]
        exact g.val e h1
      · rw [List.mem_singleton.mp h1]
        show _ = ((dl.count (some q) + (if q = q then 1 else 0) : Nat) : Int)
        rw [if_pos rfl]; omega
  · rw [setTk_keys] at hr
    have hr2 : r ∉ keys tk ∧ r ≠ q := by
      split at hr
      · rename_i h; exact ⟨hr, fun z => hr (by rw [z]; exact h)⟩
      · exact ⟨fun z => hr (List.mem_append_left _ z), fun z => hr (List.mem_append_right _ (by simp [z]))⟩
    rw [cq, g.no r hr2.1, if_neg hr2.2]
  · rw [setTk_keys] at hr
    split at hr
    · exact List.mem_append_left _ (g.inn r hr)
    · rcases List.mem_append.mp hr with h | h
      · exact List.mem_append_left _ (g.inn r h)
      · rw [List.mem_singleton.mp h]; exact List.mem_append_right _ (by simp)
theorem Given.skip {dl : List (Option Pr)} {tk : Tk} (g : Given dl tk) : Given (dl ++ [none]) tk := by
  have cq : ∀ r : Pr, (dl ++ [none]).count (some r) = dl.count (some r) := fun r => by
    rw [List.count_append, List.count_singleton]; simp
  exact ⟨g.kn, fun e he => by rw [cq]; exact g.val e he, fun q hq => by rw [cq]; exact g.no q hq, fun q hq => List.mem_append_left _ (g.inn q hq)⟩
theorem dLcIt_tk {g : Gm} {i : Nat} {f : DGF} {fe : DF} {vs : List Nat} {tk : Tk} (hg : g[i]? = some (some (.o (.dct (tkD tk))))) (hf : free (bareG g i) vs = true) (hl : tk.length ≤ 100000) (F : Pr × Int → Bool)
    (h : ∀ e ∈ tk, ∃ g1, f (.tup [prD e.1, .int e.2]) (wipeG (bareG g i) vs) = some g1 ∧ fe g1 = some (.bl (F e))) : dLcIt i f dYes fe vs g = some (.lst (tk.map fun e => .bl (F e))) := by
  have e1 : pairsD (tkD tk) = tk.map fun e => .tup [prD e.1, .int e.2] := by unfold pairsD tkD; rw [List.map_map]; rfl
  have e2 := lc_filt (tg := f) (tt := dYes) (te := fe) (g := wipeG (bareG g i) vs) (fun e : Pr × Int => D.tup [prD e.1, .int e.2]) (fun _ => true) (fun e => D.bl (F e)) (xs := tk) fun a ha => by
    obtain ⟨g1, h1, h2⟩ := h a ha
    exact ⟨g1, h1, rfl, fun _ => h2⟩
  rw [List.filter_eq_self.mpr fun _ _ => rfl] at e2
  unfold dLcIt
  rw [hg]
  have e3 : (tk.map fun e => D.bl (F e)).all D.flat = true := List.all_eq_true.mpr fun x hx => by obtain ⟨e, _, rfl⟩ := List.mem_map.mp hx; rfl
  show (if free (bareG g i) vs = true ∧ (tkD tk).length ≤ 100000 then (match lcL f dYes fe (wipeG (bareG g i) vs) (pairsD (tkD tk)) with
      | some es => if es.all D.flat then some (D.lst es) else none
      | none => none) else none) = some (D.lst (tk.map fun e => D.bl (F e)))
  rw [if_pos ⟨hf, by unfold tkD; rw [List.length_map]; exact hl⟩, e1, e2]
  exact if_pos e3
section
variable {caps : List Int} {hs : List (List Int)} {m : Nat}
theorem is_dealing_spec (c : Cs) (ok : PoolOk caps hs m) (hm : m ≤ 100) {dl : List (Option Pr)} (dk : DealOk caps hs dl) : g_is_dealing c [poolD c caps hs, .lst (dl.map opD)] = some (.v (.bl true)) := by
  have hpm := ok.pm
  have hl := dk.len
  unfold g_is_dealing t_is_dealing
  walk_at "zz"
  rw [fld_pieces]
  walk_at "zz"
  rw [hl, beq_self_eq_true, Bool.not_true]
  walk_at "zz"
  have hen : ∀ (i : Nat) (d : D), (enumL 0 (dl.map opD))[i]? = some d → ∃ o, dl[i]? = some o ∧ d = .tup [.int (i : Int), opD o] := fun i d h => by
    obtain ⟨e, h1, h2⟩ := enumL_get h
    rw [List.getElem?_map] at h1
    cases ho : dl[i]? with
    | none => rw [ho] at h1; cases h1
    | some o =>
      rw [ho] at h1
      cases h1
      exact ⟨o, rfl, by rw [h2]; congr 3; omega⟩
  refine loop_then (C := fun o => outW o = _) (fun i g => ∃ (tk : Tk) (d3 d4 : Option D), g = [some (.v (poolD c caps hs)), some (.v (.lst (dl.map opD))), some (.o (.dct (tkD tk))), d3.map Wd.v, d4.map Wd.v, none] ∧ Given (dl.take i) tk ∧ tk.length ≤ i) ⟨[], none, none, rfl, ⟨List.nodup_nil, fun e h => (by cases h), fun q _ => rfl, fun q h => by cases h⟩, Nat.le_refl _⟩ ?_ ?_
  · rintro i d g hd ⟨tk, d3, d4, rfl, gv, ht⟩
    obtain ⟨o, ho, rfl⟩ := hen i d hd
    have hi := (List.getElem?_eq_some_iff.mp ho).1
    refine ⟨_, (dgTup_a rfl).trans rfl, ?_⟩
    walk_at "zz"
    cases o with
    | none =>
      rw [show (!decide ((none : Option Pr) = none)) = false from rfl]
      walk_at "zz"
      exact step_nx ⟨tk, some _, some .non, rfl, by rw [take_succ ho]; exact gv.skip, by omega⟩
    | some q =>
      rw [show (!decide ((some q : Option Pr) = none)) = true from rfl]
      obtain ⟨h, e1, e2⟩ := dk.held i q ho
      have ha := ok.asc h (List.mem_of_getElem? e1)
      have hm2 := (heldP_mem ha q).mp e2
      have htk : (tkD tk).length < 100000 := by unfold tkD; rw [List.length_map]; omega
      walk_at "zz"
      rw [holds_spec c e1 q, decide_eq_true ⟨hm2.2.2.1, hm2.1, hm2.2.1⟩]
      walk_at "zz"
      rw [gv.get q]
      walk_at "zz"
      rw [setK_any]
      refine step_nx ⟨_, some _, some (prD q), rfl, by rw [take_succ ho]; exact gv.add q, ?_⟩
      unfold setTk
      split
      · rw [List.length_map]; omega
      · rw [List.length_append, List.length_singleton]; omega
  · rintro g ⟨tk, d3, d4, rfl, gv, ht⟩
    rw [enumL_len, List.length_map] at gv ht
    rw [List.take_of_length_le (Nat.le_refl _)] at gv
    walk_at "zz"
    rw [dLcIt_tk (tk := tk) rfl (by cases d3 <;> cases d4 <;> rfl) (by omega) (fun _ => true) fun e he => ?_]
    · walk_at "zz"
      rw [all_true]
      walk_at "zz"
    · have hin := gv.inn e.1 (List.mem_map.mpr ⟨e, he, rfl⟩)
      obtain ⟨p, hp⟩ := List.mem_iff_getElem?.mp hin
      obtain ⟨h, e1, e2⟩ := dk.held p e.1 hp
      have hr := held_in (ok.asc h (List.mem_of_getElem? e1)) e2
      have hle : e.2 ≤ roomOf caps e.1 := by
        rw [gv.val e he]
        have := List.count_pos_iff.mpr hin
        rcases dk.room e.1 with z | z <;> omega
      have hroom := room_P c (hs := hs) hr
      refine ⟨[some (.v (poolD c caps hs)), some (.v (.lst (dl.map opD))), none, d3.map Wd.v, some (.v (prD e.1)), some (.v (.int e.2))], by cases d3 <;> cases d4 <;> rfl, ?_⟩
      walk_at "zz"
      rw [hroom]
      walk_at "zz"
      rw [decide_eq_true hle]
theorem take_walk_spec {dl : List (Option Pr)} {sts : Steps} (h : ∀ s ∈ sts, 0 ≤ s.1 ∧ s.1 < (dl.length : Nat)) (hl : dl.length ≤ 1000) :
    g_take_walk [.lst (dl.map opD), .lst (sts.map stD)] = some (.o (.lst ((putAll dl sts).map opD))) := by
  unfold g_take_walk t_take_walk
  walk_at "zz"
  refine loop_each (C := fun o => outW o = _) stD sts (fun i g => ∃ k3 k4 : Option Wd, g = [some (.v (.lst (dl.map opD))), some (.v (.lst (sts.map stD))), some (.o (.lst ((putAll dl (sts.take i)).map opD))), k3, k4]) ⟨_, _, rfl⟩ ?_ ?_
  · rintro i s g hs ⟨k3, k4, rfl⟩
    have hr := h s (List.mem_of_getElem? hs)
    have hl2 := putAll_len (sts.take i) dl
    refine ⟨_, (dgTup_a rfl).trans rfl, ?_⟩
    walk_at "zz"
    exact step_nx ⟨_, _, by rw [take_succ hs, putAll_snoc]⟩
  · rintro g ⟨k3, k4, rfl⟩
    walk_at "zz"
    rw [List.take_of_length_le (Nat.le_refl _)]
def allI (n : Nat) : List Int := (List.range n).map fun i => ((i : Nat) : Int)
theorem allI_hold (n : Nat) : Hold n (allI n) := ⟨by
  unfold List.Nodup allI
  rw [List.pairwise_map]
  exact List.nodup_range.imp fun h z => h (by omega), fun k hk => by
  obtain ⟨i, hi, rfl⟩ := List.mem_map.mp hk
  rw [List.mem_range] at hi
  omega⟩
/-- the word that find_walk leaves -/
def WalkD (caps : List Int) (hs : List (List Int)) (dl : List (Option Pr)) (d : D) : Prop := (d = .non ∧ ∃ K, Stuck caps hs dl (allI hs.length) K) ∨ ∃ sts : Steps, d = .lst (sts.map stD) ∧ dueB caps hs dl sts = true
theorem find_all (c : Cs) (ok : PoolOk caps hs m) (hm : m ≤ 20) {dl : List (Option Pr)} (hl : dl.length = hs.length) : ∃ d, (g_find_walk c [poolD c caps hs, .lst (dl.map opD), .non]).map Wd.d = some d ∧ WalkD caps hs dl d := by
  obtain ⟨w, e, hw⟩ := find_walk_spec c ok hm hl (allI_hold hs.length) .non (.inl ⟨rfl, rfl⟩)
  rw [e]
  rcases hw with ⟨rfl, h⟩ | ⟨sts, rfl, hd, _⟩
  · exact ⟨_, rfl, .inl ⟨rfl, h⟩⟩
  · exact ⟨_, rfl, .inr ⟨sts, rfl, hd⟩⟩
theorem greatest_spec (c : Cs) (ok : PoolOk caps hs m) (hm : m ≤ 20) {dl : List (Option Pr)} (dk : DealOk caps hs dl) (pcs : D) (hp : (pcs = .non ∧ dl = List.replicate hs.length none) ∨ pcs = .lst (dl.map opD)) :
    ∃ res : List (Option Pr), g_greatest_dealing c [poolD c caps hs, pcs] = some (.v (.lst (res.map opD))) ∧ DealOk caps hs res ∧ (∃ K, Stuck caps hs res (allI hs.length) K) ∧ ∀ n : Nat, n < hs.length → at_ dl (n : Int) ≠ none → at_ res (n : Int) ≠ none := by
  have hpm := ok.pm
  have hl := dk.len
  suffices h : Gets (g_greatest_dealing c [poolD c caps hs, pcs]) fun w => ∃ res : List (Option Pr), w = .v (.lst (res.map opD)) ∧ DealOk caps hs res ∧ (∃ K, Stuck caps hs res (allI hs.length) K) ∧ ∀ n : Nat, n < hs.length → at_ dl (n : Int) ≠ none → at_ res (n : Int) ≠ none by
    obtain ⟨w, e, res, rfl, h⟩ := h
    exact ⟨res, e, h⟩
  unfold g_greatest_dealing t_greatest_dealing
  walk_at "zz"
  refine seq_then (C := fun o => Gets (outW o) _) (fun g => g = [some (.v (poolD c caps hs)), some (.v pcs), some (.v (.lst (dl.map opD))), none]) ?_ ?_
  · rcases hp with ⟨rfl, e⟩ | rfl
    · refine ⟨_, ?_, rfl⟩
      rw [show isD D.non D.non = some (.bl true) from rfl]
      walk_at "zz"
      rw [fld_pieces]
      walk_at "zz"
      rw [e, List.map_replicate, List.flatten_replicate_singleton]
      rfl
    · refine ⟨_, ?_, rfl⟩
      rw [show isD (D.lst (dl.map opD)) D.non = some (.bl false) from rfl]
      walk_at "zz"
  · rintro g rfl
    walk_at "zz"
    rw [is_dealing_spec c ok (by omega) dk]
    walk_at "zz"
    obtain ⟨d0, e0, w0⟩ := find_all c ok hm hl
    rw [callD2 (x := poolD c caps hs) (y := .lst (dl.map opD)) rfl, e0]
    walk_at "zz"
    refine while_then (C := fun o => Gets (outW o) _) (fun _ => False) hs.length (fun i g => ∃ (cur : List (Option Pr)) (d : D), g = [some (.v (poolD c caps hs)), some (.v pcs), some (.v (.lst (cur.map opD))), some (.v d)] ∧ DealOk caps hs cur ∧ WalkD caps hs cur d ∧ (i : Int) ≤ dealt cur ∧ ∀ n : Nat, n < hs.length → at_ dl (n : Int) ≠ none → at_ cur (n : Int) ≠ none) ⟨dl, d0, rfl, dk, w0, ?_, fun n _ h => h⟩ (by omega) ?_ ?_ ?_
    · have := List.count_le_length (a := (none : Option Pr)) (l := dl)
      unfold dealt
      omega
    · rintro i g ⟨cur, d, rfl, dk, wd, hi, hst⟩
      rcases wd with ⟨rfl, K, st⟩ | ⟨sts, rfl, hd⟩
      · exact ⟨false, rfl, fun z => by cases z⟩
      · refine ⟨true, rfl, fun _ => ?_⟩
        have tk := taken_ok dk hd
        have h1 := taken_more hd
        have h2 : dealt (putAll cur sts) ≤ (putAll cur sts).length := by unfold dealt; omega
        have h3 := tk.len
        refine ⟨by omega, ?_⟩
        walk_at "zz"
        rw [take_walk_spec (fun s h => by rw [dk.len]; exact walk_rng hd s h) (by have := dk.len; omega)]
        walk_at "zz"
        obtain ⟨d1, e1, w1⟩ := find_all c ok hm tk.len
        rw [callD2 (x := poolD c caps hs) (y := .lst ((putAll cur sts).map opD)) rfl, e1]
        walk_at "zz"
        exact turn_nx ⟨_, _, rfl, tk, w1, by omega, fun n hn h => taken_still dk.len hd hn (.inl (hst n hn h))⟩
    · rintro i g ⟨cur, d, rfl, dk, wd, hi, hst⟩ ht
      rcases wd with ⟨rfl, K, st⟩ | ⟨sts, rfl, hd⟩
      · walk_at "zz"
        exact ⟨_, rfl, cur, rfl, dk, ⟨K, st⟩, hst⟩
      · cases ht
    · exact fun w z => z.elim
end
end Zc
end

section
set_option Elab.async false
set_option linter.all false
set_option maxRecDepth 100000
set_option maxHeartbeats 2000000
/-! Dealings and lots judged, whatever the list. -/
namespace Zc
open PySem L2 Zk
def t_are_ascending : SF :=
 (sSeq (sAsg (dC (.int 0)) (dName 2))
 (sSeq (sFor (dItems (dVar 0)) (dName 3)
 (sSeq (sIf (dNotT (tDt blD (dChain leD ltD (dVar 2) (dVar 3) (dVar 1))))
 (sRet (dC (.bl false)))
 sNext)
 (sAsg (d2 addD (dVar 3) (dC (.int 1))) (dName 2))))
 (sRet (dC (.bl true)))))
def g_are_ascending : PF := runG 2 (t_are_ascending)
def t_is_lot (c : Cs) : SF :=
 (sRet (dCall 2 (g_are_ascending) (aCons (dVar 1) (aCons (d1 (fldD c.Pool "pieces") (dVar 0)) aNil))))
def g_is_lot (c : Cs) : PF := runG 0 (t_is_lot c)
local macro_rules | `(tactic| walk_at "zs") => `(tactic| simp only [beq_self_eq_true, Bool.or_false, Bool.false_or, Bool.true_or, Bool.or_true, Bool.and_false, Bool.false_and, Bool.true_and, Bool.and_true, Zc.isi_ii, Zc.isi_ib, Zc.isi_tt, Zc.isi_ll, Zc.rowsT_len, Zc.rowsL_len, Zc.is_integer_call, Zc.ix_p0, Zc.ix_p1, dgTup2_a, dgTup3_a, Bool.not_true, Bool.not_false, mul_lz, List.flatten_cons, List.flatten_nil, Int.reduceToNat, add_ll, pow10_12, pow10_18, pow10_39, pow10_41, pow10_59, pow10_60, mkLst_some, mkTup_some, List.length_cons, List.length_nil, Nat.zero_le, Nat.reduceAdd, Nat.reduceLeDiff, call1, callO1, call2, callO2, call3, callO3, call4, callO4, call5, callO5, call6, callO6, ap1_some, ap2_some, apN_some, apC_some, d1_a, d2_a, dN_a, aNil_a, aCons_a, dC_a, dVar_z, dVar_s, tDt_a, apAnd_t, apAnd_f, apOr_t, apOr_f, dAndT_a, dOrT_a, apNot_some, dNotT_a, apAndV_t, apAndV_f, dAndV_a, apOrV_t, apOrV_f, dOrV_a, apIf_t, apIf_f, dIf_a, apCh_t, apCh_f, apChain_some, dChain_a, apSeq_nx, apSeq_rt, apSeq_ct, apSeq_bk, sSeq_a, apIfS_t, apIfS_f, sIf_a, sNext_a, sCont_a, sBreak_a, apRet_some, sRet_a, apRetO_some, sRetO_a, sRetN_a, getO_z, getO_s, apRetV_some, sRetV_a, ltB_z, ltB_s, okSlot_s, apAsg_some, sAsg_a, dName_ok, apG_some, dgCons_a, dgNil_a, apAsgO_some, sAsgO_a, sApp_a, sSetI_a, apFor_some, sFor_a, dItems_a, dRng1_a, dRng2_a, apEn_some, apEn_tup, dEnum_a, sFrz_a, frzs_nil, frzs_cons, frzI_o, frzI_v, frzI_n, frzI_s, frz1_s, frzAll_nil, frzAll_o, frzAll_v, frzAll_n, peekT_a, apPk_int, apPk_bl, apPk_str, apPk_non, peekF_a, dCall_a, toO_o, dCallO_a, dMake_a, Wd_v, Wd_o, dSl_a, apSl_some, oNone_a, oSome_a, apO_some, add_ii, sub_ii, lt_ii, le_ii, gt_ii, ge_ii, eq_ii, ne_ii, neg_i, not_b, bl_b, tru_b, tru_i, tru_l, tru_t, tru_n, len_l, len_t, len_scr, abs_i, int_i, list_l, list_t, tuple_l, tuple_t, min_ii, max_ii, rev_l, items_l, items_t, iL_len, run_a, outW_rt, outW_nx, List.map_cons, List.map_nil, List.replicate, List.append_nil, List.cons_append, List.nil_append, List.set_cons_zero, List.set_cons_succ, Option.map_some])
local macro_rules | `(tactic| walk_at "zd") => `(tactic| first | ((with_reducible show okSlot _ _ = true); simp only [okSlot_s, ltB_z, ltB_s]; done) | omega | assumption | decide | (simp only [List.length_map, List.length_append, List.length_cons, List.length_nil, List.length_range, List.length_set, List.length_reverse, iL_len, Zc.rowsT_len, Zc.rowsL_len] at *; omega))
local macro_rules | `(tactic| walk_at "zz") => `(tactic| simp (disch := walk_at "zd") only [dgTup2_a, dgTup3_a, Bool.not_true, Bool.not_false, mul_lz, List.flatten_cons, List.flatten_nil, Int.reduceToNat, add_ll, pow10_12, pow10_18, pow10_39, pow10_41, pow10_59, pow10_60, mkLst_some, mkTup_some, List.length_cons, List.length_nil, Nat.zero_le, Nat.reduceAdd, Nat.reduceLeDiff, call1, callO1, call2, callO2, call3, callO3, call4, callO4, call5, callO5, call6, callO6, ap1_some, ap2_some, apN_some, apC_some, d1_a, d2_a, dN_a, aNil_a, aCons_a, dC_a, dVar_z, dVar_s, tDt_a, apAnd_t, apAnd_f, apOr_t, apOr_f, dAndT_a, dOrT_a, apNot_some, dNotT_a, apAndV_t, apAndV_f, dAndV_a, apOrV_t, apOrV_f, dOrV_a, apIf_t, apIf_f, dIf_a, apCh_t, apCh_f, apChain_some, dChain_a, apSeq_nx, apSeq_rt, apSeq_ct, apSeq_bk, sSeq_a, apIfS_t, apIfS_f, sIf_a, sNext_a, sCont_a, sBreak_a, apRet_some, sRet_a, apRetO_some, sRetO_a, sRetN_a, getO_z, getO_s, apRetV_some, sRetV_a, ltB_z, ltB_s, okSlot_s, apAsg_some, sAsg_a, dName_ok, apG_some, dgCons_a, dgNil_a, apAsgO_some, sAsgO_a, sApp_a, sSetI_a, apFor_some, sFor_a, dItems_a, dRng1_a, dRng2_a, apEn_some, apEn_tup, dEnum_a, sFrz_a, frzs_nil, frzs_cons, frzI_o, frzI_v, frzI_n, frzI_s, frz1_s, frzAll_nil, frzAll_o, frzAll_v, frzAll_n, peekT_a, apPk_int, apPk_bl, apPk_str, apPk_non, peekF_a, dCall_a, toO_o, dCallO_a, dMake_a, Wd_v, Wd_o, dSl_a, apSl_some, oNone_a, oSome_a, apO_some, add_ii, sub_ii, lt_ii, le_ii, gt_ii, ge_ii, eq_ii, ne_ii, neg_i, not_b, bl_b, tru_b, tru_i, tru_l, tru_t, tru_n, len_l, len_t, len_scr, abs_i, int_i, list_l, list_t, tuple_l, tuple_t, min_ii, max_ii, rev_l, items_l, items_t, iL_len, run_a, outW_rt, outW_nx, List.map_cons, List.map_nil, List.replicate, List.append_nil, List.cons_append, List.nil_append, List.set_cons_zero, List.set_cons_succ, Option.map_some, Int.reduceAdd, Int.reduceMul, Int.reduceSub, Int.reduceNeg, beq_self_eq_true, Bool.or_false, Bool.false_or, Bool.true_or, Bool.or_true, Bool.and_false, Bool.false_and, Bool.true_and, Bool.and_true, Zc.isi_ii, Zc.isi_ib, Zc.isi_tt, Zc.isi_ll, Zc.rowsT_len, Zc.rowsL_len, Zc.is_integer_call, Zc.ix_p0, Zc.ix_p1, apR1_any, Int.toNat_natCast, apR2_some, mod_ii, fdiv_ii, mul_small, apApp_some, ix_at, ix_atT, ix_atI, ix_atIT, ix_atR, ix_atRT, List.length_map, List.length_append, List.length_range, List.length_set, Option.map_none, Option.map_map, decide_true, decide_false, peekO_a, apPkO_i, frz_wo, frz_wv, frz_kk, wipeG_nil, wipeG_cons, orB_s, orB_t, orB_f, andB_s, andB_t, andB_f, orV_s, orV_t, orV_f, andV_s, andV_t, andV_f, apOr_b, apAnd_b, apOrV_b, apAndV_b, apCh_b, Zc.cut_from, Zc.cut_to, in_l, in_t, in_pr, eq_op_op, eq_op_pr, eq_pr_op, eq_pr_pr, ne_op_op, ne_op_pr, ne_pr_op, ne_pr_pr, isnt_op, is_op, pr_0, pr_1, st_0, st_1, inP_pr, ninP_pr, nin_l, isi_prt, len_pr, op_some, prD_eq, ix_lit2, ix_lit3, ix_lit4, ix_lit5, ix_lit6, ix_lit7, ix_lit8, ix_lit9, ix_lit10, ix_lit11, ix_lit12, ix_lit13, ix_lit14, ix_lit15, setI_i, setI_p, setI_o, setI_n, snoc_i, snoc_r, snoc_p, snoc_n, snoc_o, snoc_pp, snoc_s, eq_ol, ne_ol, eq_pl, ne_pl, eq_sl, ne_sl, eq_il, ne_il, eq_rl, ne_rl, eq_il1, isi_bb, eq_bb, ne_bb, dctAt_o, dctAt_v, dctAt_s, apDget_some, dGetO_a, apPut_some, sPutO_a])
local macro_rules | `(tactic| walk_at "zf") => `(tactic| first | (walk_at "zz"; done) | (walk_at "zz"; rfl) | rfl)
local macro_rules | `(tactic| walk_at "lc") => `(tactic| ((case hf => rfl); (case hi => first | (walk_at "zz"; done) | (walk_at "zz"; rfl) | rfl); (case hl => walk_at "zd"); (case h => (intro a ha; refine ⟨_, dName_ok rfl, ?_, fun hT => ?_⟩ <;> walk_at "zz" <;> rfl))))
local macro_rules | `(tactic| walk_at "lm") => `(tactic| ((case hf => rfl); (case hi => first | (walk_at "zz"; done) | (walk_at "zz"; rfl) | rfl); (case hl => walk_at "zd"); (case h => (intro a ha; refine ⟨_, dName_ok rfl, ?_⟩; walk_at "zz"; rfl))))
/-! ### is_dealing -/
section
variable {caps : List Int} {hs : List (List Int)} {m : Nat}
theorem all_bls {α : Type} (xs : List α) (T : α → Bool) : allD [.lst (xs.map fun x => D.bl (T x))] = some (.bl (xs.all T)) := by
  show (asBls _).map _ = _
  rw [asBls_map]
  show some (D.bl _) = _
  rw [List.all_map]; rfl
theorem is_dealing_any (c : Cs) (ok : PoolOk caps hs m) (hm : m ≤ 100) (dl : List (Option Pr)) (hl : dl.length ≤ 1000) :
    ∃ b : Bool, g_is_dealing c [poolD c caps hs, .lst (dl.map opD)] = some (.v (.bl b)) ∧ (b = true ↔ IsDeal caps hs dl) := by
  have hpm := ok.pm
  unfold g_is_dealing t_is_dealing
  walk_at "zz"
  rw [fld_pieces]
  walk_at "zz"
  by_cases hlen : dl.length = hs.length
  · rw [hlen, beq_self_eq_true, Bool.not_true]
    walk_at "zz"
    have hen : ∀ (i : Nat) (d : D), (enumL 0 (dl.map opD))[i]? = some d → ∃ o, dl[i]? = some o ∧ d = .tup [.int (i : Int), opD o] := fun i d h => by
      obtain ⟨e, h1, h2⟩ := enumL_get h
      rw [List.getElem?_map] at h1
      cases ho : dl[i]? with
      | none => rw [ho] at h1; cases h1
      | some o =>
        rw [ho] at h1
        cases h1
        exact ⟨o, rfl, by rw [h2]; congr 3; omega⟩
    refine gen_then (C := fun o => ∃ b : Bool, outW o = some (.v (.bl b)) ∧ (b = true ↔ IsDeal caps hs dl)) (fun w => w = .v (.bl false) ∧ ¬ IsDeal caps hs dl) (fun _ => False)
      (fun i g => ∃ (tk : Tk) (d3 d4 : Option D), g = [some (.v (poolD c caps hs)), some (.v (.lst (dl.map opD))), some (.o (.dct (tkD tk))), d3.map Wd.v, d4.map Wd.v, none] ∧ Given (dl.take i) tk ∧ tk.length ≤ i ∧
        ∀ (p : Nat) (q : Pr), p < i → dl[p]? = some (some q) → q.1 < q.2 ∧ q.1 ∈ at_ hs p ∧ q.2 ∈ at_ hs p) ⟨[], none, none, rfl, ⟨List.nodup_nil, fun e h => (by cases h), fun q _ => rfl, fun q h => by cases h⟩, Nat.le_refl _, fun p q h => by omega⟩ ?_ ?_ (fun _ z => z.elim) ?_
    · rintro i d g hd ⟨tk, d3, d4, rfl, gv, ht, hh⟩
      obtain ⟨o, ho, rfl⟩ := hen i d hd
      have hi := (List.getElem?_eq_some_iff.mp ho).1
      refine ⟨_, (dgTup_a rfl).trans rfl, ?_⟩
      walk_at "zz"
      cases o with
      | none =>
        rw [show (!decide ((none : Option Pr) = none)) = false from rfl]
        walk_at "zz"
        refine turn_nx ⟨tk, some _, some .non, rfl, by rw [take_succ ho]; exact gv.skip, by omega, fun p q hp e => ?_⟩
        by_cases z : p = i
        · rw [z, ho] at e; cases e
        · exact hh p q (by omega) e
      | some q =>
        rw [show (!decide ((some q : Option Pr) = none)) = true from rfl]
        have eh : hs[i]? = some (at_ hs (i : Int)) := by have := at_get (xs := hs) (k := (i : Int)) (by omega) (by omega); rwa [Int.toNat_natCast] at this
        have htk : (tkD tk).length < 100000 := by unfold tkD; rw [List.length_map]; omega
        walk_at "zz"
        rw [holds_spec c eh q]
        by_cases hq : q.1 < q.2 ∧ q.1 ∈ at_ hs (i : Int) ∧ q.2 ∈ at_ hs (i : Int)
        · rw [decide_eq_true hq]
          walk_at "zz"
          rw [gv.get q]
          walk_at "zz"
          rw [setK_any]
          refine turn_nx ⟨_, some _, some (prD q), rfl, by rw [take_succ ho]; exact gv.add q, ?_, fun p q' hp e => ?_⟩
          · unfold setTk
            split
            · rw [List.length_map]; omega
            · rw [List.length_append, List.length_singleton]; omega
          · by_cases z : p = i
            · rw [z, ho] at e; cases e; rw [z]; exact hq
            · exact hh p q' (by omega) e
        · rw [decide_eq_false hq]
          walk_at "zz"
          exact turn_rt ⟨rfl, fun z => hq (z.held i q ho)⟩
    · rintro g ⟨tk, d3, d4, rfl, gv, ht, hh⟩
      rw [enumL_len, List.length_map] at gv ht hh
      rw [List.take_of_length_le (Nat.le_refl _)] at gv
      walk_at "zz"
      rw [dLcIt_tk (tk := tk) rfl (by cases d3 <;> cases d4 <;> rfl) (by omega) (fun e => decide (e.2 ≤ roomOf caps e.1)) fun e he => ?_]
      · walk_at "zz"
        rw [all_bls]
        walk_at "zz"
        refine ⟨_, rfl, ?_⟩
        rw [List.all_eq_true]
        refine ⟨fun h => ⟨hlen, fun p q e => hh p q ((List.getElem?_eq_some_iff.mp e).1) e, fun q hq => ?_⟩, fun h e he => ?_⟩
        · have hk : q ∈ keys tk := Decidable.byContradiction fun z => by
            have := gv.no q z
            have := List.count_pos_iff.mpr hq
            omega
          obtain ⟨e, h1, h2⟩ := List.mem_map.mp hk
          have := of_decide_eq_true (h e h1)
          rw [gv.val e h1, h2] at this
          exact this
        · rw [decide_eq_true_eq, gv.val e he]
          exact h.room e.1 (gv.inn e.1 (List.mem_map.mpr ⟨e, he, rfl⟩))
      · have hin := gv.inn e.1 (List.mem_map.mpr ⟨e, he, rfl⟩)
        obtain ⟨p, hp⟩ := List.mem_iff_getElem?.mp hin
        have hp' := (List.getElem?_eq_some_iff.mp hp).1
        have h1 := hh p e.1 hp' hp
        have ha := ok.asc (at_ hs (p : Int)) (at_mem (by omega) (by omega))
        have hr : InR caps e.1 := ⟨ha.2 _ h1.2.1, ha.2 _ h1.2.2⟩
        have hroom := room_P c (hs := hs) hr
        refine ⟨[some (.v (poolD c caps hs)), some (.v (.lst (dl.map opD))), none, d3.map Wd.v, some (.v (prD e.1)), some (.v (.int e.2))], by cases d3 <;> cases d4 <;> rfl, ?_⟩
        walk_at "zz"
        rw [hroom]
        walk_at "zz"
    · rintro w ⟨rfl, hn⟩
      exact ⟨false, rfl, by simp [hn]⟩
  · rw [show (((dl.length : Nat) : Int) == ((hs.length : Nat) : Int)) = false from by rw [beq_eq_false_iff_ne]; omega, Bool.not_false]
    walk_at "zz"
    exact ⟨false, rfl, by simp; exact fun z => hlen z.len⟩
end
/-! ### are_ascending -/
def ascB (n : Int) : Int → List Int → Bool
  | _, [] => true
  | l, x :: r => decide (l ≤ x) && (decide (x < n) && ascB n (x + 1) r)
theorem ascB_iff (n : Int) : ∀ (xs : List Int) (l : Int), ascB n l xs = true ↔ xs.Pairwise (· < ·) ∧ ∀ x ∈ xs, l ≤ x ∧ x < n
  | [], l => by simp [ascB]
  | x :: r, l => by
    unfold ascB
    rw [Bool.and_eq_true, Bool.and_eq_true, decide_eq_true_eq, decide_eq_true_eq, ascB_iff n r, List.pairwise_cons]
    constructor
    · rintro ⟨h1, h2, h3, h4⟩
      refine ⟨⟨fun y hy => by have := h4 y hy; omega, h3⟩, fun y hy => ?_⟩
      rcases List.mem_cons.mp hy with rfl | z
      · exact ⟨h1, h2⟩
      · have := h4 y z; omega
    · rintro ⟨⟨h1, h2⟩, h3⟩
      have := h3 x List.mem_cons_self
      exact ⟨this.1, this.2, h2, fun y hy => ⟨by have := h1 y hy; omega, (h3 y (List.mem_cons_of_mem _ hy)).2⟩⟩
instance {n : Nat} {h : List Int} : Decidable (Asc n h) := by unfold Asc; exact inferInstance
theorem asc_ascB {n : Nat} {xs : List Int} : ascB (n : Int) 0 xs = decide (Asc n xs) := by
  rw [Bool.eq_iff_iff, ascB_iff, decide_eq_true_eq]
  rfl
theorem ascending_spec (n : Nat) (xs : List Int) : g_are_ascending [.lst (iL xs), .int (n : Int)] = some (.v (.bl (decide (Asc n xs)))) := by
  unfold g_are_ascending t_are_ascending
  walk_at "zz"
  rw [← asc_ascB]
  generalize (0 : Int) = l
  suffices h : ∀ (xs ys : List Int) (l : Int) (k : Option Wd), outW (apSeq (loopD (dName 3) (sSeq (sIf (dNotT (tDt blD (dChain leD ltD (dVar 2) (dVar 3) (dVar 1)))) (sRet (dC (.bl false))) sNext) (sAsg (d2 addD (dVar 3) (dC (.int 1))) (dName 2))) (iL xs) [some (.v (.lst (iL ys))), some (.v (.int (n : Int))), some (.v (.int l)), k]) (sRet (dC (.bl true)))) = some (.v (.bl (ascB n l xs))) from h xs xs l none
  intro xs
  induction xs with
  | nil => intro ys l k; rfl
  | cons x r ih =>
    intro ys l k
    show outW (apSeq ((dName 3 (.int x) _).bind _) _) = _
    rw [show dName 3 (.int x) [some (.v (.lst (iL ys))), some (.v (.int (n : Int))), some (.v (.int l)), k] = some [some (.v (.lst (iL ys))), some (.v (.int (n : Int))), some (.v (.int l)), some (.v (.int x))] from rfl, Option.bind_some]
    unfold ascB
    by_cases h1 : l ≤ x
    · by_cases h2 : x < (n : Int)
      · walk_at "zz"
        rw [decide_eq_true h1, decide_eq_true h2]
        walk_at "zz"
        exact ih ys (x + 1) _
      · walk_at "zz"
        rw [decide_eq_true h1, decide_eq_false h2]
        walk_at "zz"
        rfl
    · walk_at "zz"
      rw [decide_eq_false h1]
      walk_at "zz"
      rfl
theorem is_lot_spec (c : Cs) {caps : List Int} {hs : List (List Int)} (xs : List Int) : g_is_lot c [poolD c caps hs, .lst (iL xs)] = some (.v (.bl (decide (Asc hs.length xs)))) := by
  unfold g_is_lot t_is_lot
  walk_at "zz"
  rw [fld_pieces]
  walk_at "zz"
  rw [ascending_spec]
  walk_at "zz"
/-! ### repr of a list of alike data -/
theorem repr_enc {α : Type} [DecidableEq α] {f : α → D} {p : α → PyData} {k : Nat} (e : Enc f p k) (hk : k ≤ 30) {xs : List α} {B W : Nat} (hB : 8 ≤ B ∧ B ≤ 100) (hs : ∀ x ∈ xs, (p x).showable = true ∧ (p x).intsShort B = true ∧ (p x).weight ≤ W) (hW : xs.length * (W + 1) ≤ 100000) :
    Zg.reprD [.lst (xs.map f)] = some (.str (PyData.list (xs.map p)).shown) := by
  have ht : toP (.lst (xs.map f)) = some (.list (xs.map p)) := by
    show (toPs (xs.map f)).map _ = _
    rw [e.tos]; rfl
  have a1 : ∀ ys : List α, (∀ x ∈ ys, x ∈ xs) → PyData.showableAll (ys.map p) = true ∧ PyData.intsShortAll B (ys.map p) = true ∧ PyData.weightAll (ys.map p) ≤ ys.length * (W + 1) := by
    intro ys
    induction ys with
    | nil => exact fun _ => ⟨rfl, rfl, Nat.zero_le _⟩
    | cons y ys ih =>
      intro h
      have h1 := hs y (h y List.mem_cons_self)
      have h2 := ih fun x hx => h x (List.mem_cons_of_mem _ hx)
      refine ⟨?_, ?_, ?_⟩
      · show (PyData.showable (p y) && PyData.showableAll (ys.map p)) = true
        rw [h1.1, h2.1]; rfl
      · show (PyData.intsShort B (p y) && PyData.intsShortAll B (ys.map p)) = true
        rw [h1.2.1, h2.2.1]; rfl
      · have w1 := h1.2.2
        have w2 := h2.2.2
        rw [List.map_cons, List.length_cons, Nat.add_mul, Nat.one_mul]
        have e3 : PyData.weightAll (p y :: ys.map p) = (p y).weight + 1 + PyData.weightAll (ys.map p) := by simp only [PyData.weightAll]
        omega
  obtain ⟨h1, h2, h3⟩ := a1 xs fun _ h => h
  have hlay : (PyData.list (xs.map p)).canLay0 = true := by
    show PyData.canLayAll0 (xs.map p) = true
    exact e.lays xs
  have hd := e.deps xs
  have hle := PyData.shown_le B hB.1 (PyData.list (xs.map p)) (PyData.leavesShort_of_canLay0 B _ hlay (by show PyData.intsShortAll B (xs.map p) = true; exact h2))
  show (toP (.lst (xs.map f))).bind _ = _
  rw [ht]
  refine if_pos ⟨by show PyData.showableAll (xs.map p) = true; exact h1, PyData.hasDict_of_canLay _ hlay, ?_, ?_⟩
  · simp only [PyData.depth]; omega
  · refine Nat.le_trans hle ?_
    have hw : (PyData.list (xs.map p)).weight ≤ 100001 := by simp only [PyData.weight]; omega
    rw [sizeLine_eq]
    have : (B + 2) * (PyData.list (xs.map p)).weight ≤ 102 * 100001 := Nat.mul_le_mul (by omega) hw
    omega
theorem short_int {i : Int} (h : i.natAbs < 10 ^ 12) : (PyData.int i).intsShort 13 = true ∧ (PyData.int i).showable = true := by
  refine ⟨decide_eq_true (PyData.shown_int_le h), decide_eq_true ?_⟩
  by_cases z : i.natAbs = 0
  · rw [z]; decide
  · refine Nat.lt_of_lt_of_le ((Nat.log2_lt (k := 40) z).mpr (Nat.lt_of_lt_of_le h (by decide))) (by decide)
end Zc
end

section
set_option Elab.async false
set_option linter.all false
set_option maxRecDepth 100000
set_option maxHeartbeats 2000000
/-! The law's own functions. -/
namespace Y
open PySem L2 Zk Zc
local macro_rules | `(tactic| walk_at "zs") => `(tactic| simp only [beq_self_eq_true, Bool.or_false, Bool.false_or, Bool.true_or, Bool.or_true, Bool.and_false, Bool.false_and, Bool.true_and, Bool.and_true, Zc.isi_ii, Zc.isi_ib, Zc.isi_tt, Zc.isi_ll, Zc.rowsT_len, Zc.rowsL_len, Zc.is_integer_call, Zc.ix_p0, Zc.ix_p1, dgTup2_a, dgTup3_a, Bool.not_true, Bool.not_false, mul_lz, List.flatten_cons, List.flatten_nil, Int.reduceToNat, add_ll, pow10_12, pow10_18, pow10_39, pow10_41, pow10_59, pow10_60, mkLst_some, mkTup_some, List.length_cons, List.length_nil, Nat.zero_le, Nat.reduceAdd, Nat.reduceLeDiff, call1, callO1, call2, callO2, call3, callO3, call4, callO4, call5, callO5, call6, callO6, ap1_some, ap2_some, apN_some, apC_some, d1_a, d2_a, dN_a, aNil_a, aCons_a, dC_a, dVar_z, dVar_s, tDt_a, apAnd_t, apAnd_f, apOr_t, apOr_f, dAndT_a, dOrT_a, apNot_some, dNotT_a, apAndV_t, apAndV_f, dAndV_a, apOrV_t, apOrV_f, dOrV_a, apIf_t, apIf_f, dIf_a, apCh_t, apCh_f, apChain_some, dChain_a, apSeq_nx, apSeq_rt, apSeq_ct, apSeq_bk, sSeq_a, apIfS_t, apIfS_f, sIf_a, sNext_a, sCont_a, sBreak_a, apRet_some, sRet_a, apRetO_some, sRetO_a, sRetN_a, getO_z, getO_s, apRetV_some, sRetV_a, ltB_z, ltB_s, okSlot_s, apAsg_some, sAsg_a, dName_ok, apG_some, dgCons_a, dgNil_a, apAsgO_some, sAsgO_a, sApp_a, sSetI_a, apFor_some, sFor_a, dItems_a, dRng1_a, dRng2_a, apEn_some, apEn_tup, dEnum_a, sFrz_a, frzs_nil, frzs_cons, frzI_o, frzI_v, frzI_n, frzI_s, frz1_s, frzAll_nil, frzAll_o, frzAll_v, frzAll_n, peekT_a, apPk_int, apPk_bl, apPk_str, apPk_non, peekF_a, dCall_a, toO_o, dCallO_a, dMake_a, Wd_v, Wd_o, dSl_a, apSl_some, oNone_a, oSome_a, apO_some, add_ii, sub_ii, lt_ii, le_ii, gt_ii, ge_ii, eq_ii, ne_ii, neg_i, not_b, bl_b, tru_b, tru_i, tru_l, tru_t, tru_n, len_l, len_t, len_scr, abs_i, int_i, list_l, list_t, tuple_l, tuple_t, min_ii, max_ii, rev_l, items_l, items_t, iL_len, run_a, outW_rt, outW_nx, List.map_cons, List.map_nil, List.replicate, List.append_nil, List.cons_append, List.nil_append, List.set_cons_zero, List.set_cons_succ, Option.map_some])
local macro_rules | `(tactic| walk_at "zd") => `(tactic| first | ((with_reducible show okSlot _ _ = true); simp only [okSlot_s, ltB_z, ltB_s]; done) | omega | assumption | decide | (simp only [List.length_map, List.length_append, List.length_cons, List.length_nil, List.length_range, List.length_set, List.length_reverse, iL_len, Zc.rowsT_len, Zc.rowsL_len] at *; omega))
local macro_rules | `(tactic| walk_at "zz") => `(tactic| simp (disch := walk_at "zd") only [dgTup2_a, dgTup3_a, Bool.not_true, Bool.not_false, mul_lz, List.flatten_cons, List.flatten_nil, Int.reduceToNat, add_ll, pow10_12, pow10_18, pow10_39, pow10_41, pow10_59, pow10_60, mkLst_some, mkTup_some, List.length_cons, List.length_nil, Nat.zero_le, Nat.reduceAdd, Nat.reduceLeDiff, call1, callO1, call2, callO2, call3, callO3, call4, callO4, call5, callO5, call6, callO6, ap1_some, ap2_some, apN_some, apC_some, d1_a, d2_a, dN_a, aNil_a, aCons_a, dC_a, dVar_z, dVar_s, tDt_a, apAnd_t, apAnd_f, apOr_t, apOr_f, dAndT_a, dOrT_a, apNot_some, dNotT_a, apAndV_t, apAndV_f, dAndV_a, apOrV_t, apOrV_f, dOrV_a, apIf_t, apIf_f, dIf_a, apCh_t, apCh_f, apChain_some, dChain_a, apSeq_nx, apSeq_rt, apSeq_ct, apSeq_bk, sSeq_a, apIfS_t, apIfS_f, sIf_a, sNext_a, sCont_a, sBreak_a, apRet_some, sRet_a, apRetO_some, sRetO_a, sRetN_a, getO_z, getO_s, apRetV_some, sRetV_a, ltB_z, ltB_s, okSlot_s, apAsg_some, sAsg_a, dName_ok, apG_some, dgCons_a, dgNil_a, apAsgO_some, sAsgO_a, sApp_a, sSetI_a, apFor_some, sFor_a, dItems_a, dRng1_a, dRng2_a, apEn_some, apEn_tup, dEnum_a, sFrz_a, frzs_nil, frzs_cons, frzI_o, frzI_v, frzI_n, frzI_s, frz1_s, frzAll_nil, frzAll_o, frzAll_v, frzAll_n, peekT_a, apPk_int, apPk_bl, apPk_str, apPk_non, peekF_a, dCall_a, toO_o, dCallO_a, dMake_a, Wd_v, Wd_o, dSl_a, apSl_some, oNone_a, oSome_a, apO_some, add_ii, sub_ii, lt_ii, le_ii, gt_ii, ge_ii, eq_ii, ne_ii, neg_i, not_b, bl_b, tru_b, tru_i, tru_l, tru_t, tru_n, len_l, len_t, len_scr, abs_i, int_i, list_l, list_t, tuple_l, tuple_t, min_ii, max_ii, rev_l, items_l, items_t, iL_len, run_a, outW_rt, outW_nx, List.map_cons, List.map_nil, List.replicate, List.append_nil, List.cons_append, List.nil_append, List.set_cons_zero, List.set_cons_succ, Option.map_some, Int.reduceAdd, Int.reduceMul, Int.reduceSub, Int.reduceNeg, beq_self_eq_true, Bool.or_false, Bool.false_or, Bool.true_or, Bool.or_true, Bool.and_false, Bool.false_and, Bool.true_and, Bool.and_true, Zc.isi_ii, Zc.isi_ib, Zc.isi_tt, Zc.isi_ll, Zc.rowsT_len, Zc.rowsL_len, Zc.is_integer_call, Zc.ix_p0, Zc.ix_p1, apR1_any, Int.toNat_natCast, apR2_some, mod_ii, fdiv_ii, mul_small, apApp_some, ix_at, ix_atT, ix_atI, ix_atIT, ix_atR, ix_atRT, List.length_map, List.length_append, List.length_range, List.length_set, Option.map_none, Option.map_map, decide_true, decide_false, peekO_a, apPkO_i, frz_wo, frz_wv, frz_kk, wipeG_nil, wipeG_cons, orB_s, orB_t, orB_f, andB_s, andB_t, andB_f, orV_s, orV_t, orV_f, andV_s, andV_t, andV_f, apOr_b, apAnd_b, apOrV_b, apAndV_b, apCh_b, Zc.cut_from, Zc.cut_to, in_l, in_t, in_pr, eq_op_op, eq_op_pr, eq_pr_op, eq_pr_pr, ne_op_op, ne_op_pr, ne_pr_op, ne_pr_pr, isnt_op, is_op, pr_0, pr_1, st_0, st_1, inP_pr, ninP_pr, nin_l, isi_prt, len_pr, op_some, prD_eq, ix_lit2, ix_lit3, ix_lit4, ix_lit5, ix_lit6, ix_lit7, ix_lit8, ix_lit9, ix_lit10, ix_lit11, ix_lit12, ix_lit13, ix_lit14, ix_lit15, setI_i, setI_p, setI_o, setI_n, snoc_i, snoc_r, snoc_p, snoc_n, snoc_o, snoc_pp, snoc_s, eq_ol, ne_ol, eq_pl, ne_pl, eq_sl, ne_sl, eq_il, ne_il, eq_rl, ne_rl, eq_il1, isi_bb, eq_bb, ne_bb, Zg.peekS_a])
local macro_rules | `(tactic| walk_at "zf") => `(tactic| first | (walk_at "zz"; done) | (walk_at "zz"; rfl) | rfl)
local macro_rules | `(tactic| walk_at "lc") => `(tactic| ((case hf => rfl); (case hi => first | (walk_at "zz"; done) | (walk_at "zz"; rfl) | rfl); (case hl => walk_at "zd"); (case h => (intro a ha; refine ⟨_, dName_ok rfl, ?_, fun hT => ?_⟩ <;> walk_at "zz" <;> rfl))))
local macro_rules | `(tactic| walk_at "lm") => `(tactic| ((case hf => rfl); (case hi => first | (walk_at "zz"; done) | (walk_at "zz"; rfl) | rfl); (case hl => walk_at "zd"); (case h => (intro a ha; refine ⟨_, dName_ok rfl, ?_⟩; walk_at "zz"; rfl))))
theorem e_draws : g_law_draws = Zc.g_law_draws := rfl
theorem e_pairs : g_law_pairs = Zc.g_law_pairs := rfl
theorem e_pool : g_law_pool = Zc.g_law_pool := rfl
theorem e_wide : g_law_wide_pool = Zc.g_law_wide_pool := rfl
theorem e_wbits : g_law_wide_bits = Zc.g_law_wide_bits := rfl
theorem e_int : g_law_is_integer = Zc.g_law_is_integer := rfl
theorem e_cell : g_law_cell = Zc.g_law_cell := rfl
theorem e_is (c : Cs) : g_law_is_pool c = Zc.g_law_is_pool ⟨c.Pool⟩ := rfl
theorem e_init (c : Cs) : g_Pool_init c = Zc.g_Pool_init ⟨c.Pool⟩ := rfl
theorem e_deal (c : Cs) : g_is_dealing c = Zc.g_is_dealing ⟨c.Pool⟩ := rfl
theorem e_lot (c : Cs) : g_is_lot c = Zc.g_is_lot ⟨c.Pool⟩ := rfl
theorem e_ldeal : g_law_is_dealing = Zc.g_law_is_dealing := rfl
/-- an entry with small numbers -/
def Ent (o : Option Pr) : Prop := ∀ q, o = some q → (-1000 ≤ q.1 ∧ q.1 ≤ 1000) ∧ (-1000 ≤ q.2 ∧ q.2 ≤ 1000)
theorem ent_none : Ent none := fun q h => by cases h
section
variable {caps : List Int} {hs : List (List Int)} {m : Nat}
theorem says_spec (b : Bool) : g_law_says [.bl b, .bl b] = some (.v (.bl true)) := by cases b <;> rfl
theorem filled_spec (ok : PoolOk caps hs m) (hm : m ≤ 60) {dr : List Int} (hd : hs.length ≤ dr.length) (h0 : ∀ x ∈ dr, 0 ≤ x ∧ x < 100000) :
    ∃ dl : List (Option Pr), g_law_filled [.lst (iL caps), .lst (rowsL hs), .lst (iL dr)] = some (.o (.lst (dl.map opD))) ∧ dl.length = hs.length ∧ ∀ o ∈ dl, Ent o := by
  have h12 := ok.s12
  have hpm := ok.pm
  suffices h : Gets (g_law_filled [.lst (iL caps), .lst (rowsL hs), .lst (iL dr)]) fun w => ∃ dl : List (Option Pr), w = .o (.lst (dl.map opD)) ∧ dl.length = hs.length ∧ ∀ o ∈ dl, Ent o by
    obtain ⟨w, e, dl, rfl, h⟩ := h
    exact ⟨dl, e, h⟩
  obtain ⟨ps, hp, hps⟩ := pairsL_prD caps.length
  have hpl : ps.length ≤ 1000 := by
    have e : (pairsL caps.length).length = ps.length := by rw [hp, List.length_map]
    have := flat_len caps.length caps.length
    have h2 : caps.length * caps.length ≤ 12 * 12 := Nat.mul_le_mul h12 h12
    unfold pairsL at e
    omega
  unfold g_law_filled t_law_filled
  rw [e_pairs]
  walk_at "zz"
  refine rng_then (C := fun o => Gets (outW o) _) (fun i g => ∃ (dl : List (Option Pr)) (k4 k5 k6 k7 k8 k9 : Option D), g = [some (.v (.lst (iL caps))), some (.v (.lst (rowsL hs))), some (.v (.lst (iL dr))), some (.o (.lst (dl.map opD))), k4.map Wd.v, k5.map Wd.v, k6.map Wd.v, k7.map Wd.v, k8.map Wd.v, k9.map Wd.v, none] ∧ dl.length = i ∧ ∀ o ∈ dl, Ent o) ?_ ?_ ?_ ?_
  · exact ⟨[], none, none, none, none, none, none, rfl, rfl, fun o h => by cases h⟩
  · rintro i g ⟨dl, k4, k5, k6, k7, k8, k9, rfl, _⟩
    rfl
  · rintro i g hi ⟨dl, k4, k5, k6, k7, k8, k9, rfl, hdl, he⟩
    walk_at "zz"
    rw [dLc_filt (f := prD) (xs := ps) (T := fun q => (at_ hs (i : Int)).contains q.1 && (at_ hs (i : Int)).contains q.2) (F := prD) (by cases k6 <;> cases k7 <;> cases k8 <;> cases k9 <;> rfl) ?hi (by omega) ?h]
    case hi =>
      walk_at "zz"
      rw [Zc.pairs_spec caps.length (by omega)]
      walk_at "zz"
      rw [hp]
    case h =>
      intro a ha
      refine ⟨_, dName_ok rfl, ?_, fun hT => ?_⟩
      · walk_at "zz"
      · walk_at "zz"
    walk_at "zz"
    generalize hheld : (ps.filter fun q => (at_ hs (i : Int)).contains q.1 && (at_ hs (i : Int)).contains q.2) = held
    have hin : ∀ q ∈ held, q ∈ ps := fun q hq => by rw [← hheld] at hq; exact (List.mem_filter.mp hq).1
    have hhl : held.length ≤ 1000 := by rw [← hheld]; exact Nat.le_trans (List.length_filter_le _ _) hpl
    have hdi := h0 _ (at_mem (xs := dr) (k := (i : Int)) (by omega) (by omega))
    walk_at "zz"
    let St : Option Pr → Option D → Option D → Gm := fun o k8 k9 => [some (.v (.lst (iL caps))), some (.v (.lst (rowsL hs))), some (.v (.lst (iL dr))), some (.o (.lst (dl.map opD))), some (.v (.int (i : Int))), some (.v (.lst (iL (at_ hs (i : Int))))), some (.v (.lst (held.map prD))), some (.v (opD o)), k8.map Wd.v, k9.map Wd.v, none]
    have fin : ∀ (o : Option Pr) (k8 k9 : Option D), Ent o → StepTo (sSeq (sIf (tDt blD (d2 eqD (dN intD (aCons (d2 fdivD (d2 ixD (dVar 2) (dVar 4)) (dC (.int 60))) aNil)) (dC (.int 4)))) (sAsg (dC .non) (dName 7)) sNext) (sApp 3 (dVar 7)) (St o k8 k9)) (fun g => ∃ (dl : List (Option Pr)) (k4 k5 k6 k7 k8 k9 : Option D), g = [some (.v (.lst (iL caps))), some (.v (.lst (rowsL hs))), some (.v (.lst (iL dr))), some (.o (.lst (dl.map opD))), k4.map Wd.v, k5.map Wd.v, k6.map Wd.v, k7.map Wd.v, k8.map Wd.v, k9.map Wd.v, none] ∧ dl.length = i + 1 ∧ ∀ o ∈ dl, Ent o) := fun o k8 k9 ho => by
      dsimp only [St]
      walk_at "zz"
      have last : ∀ (o' : Option Pr) (d7 : D), Ent o' → StepTo (some (.nx [some (.v (.lst (iL caps))), some (.v (.lst (rowsL hs))), some (.v (.lst (iL dr))), some (.o (.lst ((dl ++ [o']).map opD))), some (.v (.int (i : Int))), some (.v (.lst (iL (at_ hs (i : Int))))), some (.v (.lst (held.map prD))), some (.v d7), k8.map Wd.v, k9.map Wd.v, none])) (fun g => ∃ (dl : List (Option Pr)) (k4 k5 k6 k7 k8 k9 : Option D), g = [some (.v (.lst (iL caps))), some (.v (.lst (rowsL hs))), some (.v (.lst (iL dr))), some (.o (.lst (dl.map opD))), k4.map Wd.v, k5.map Wd.v, k6.map Wd.v, k7.map Wd.v, k8.map Wd.v, k9.map Wd.v, none] ∧ dl.length = i + 1 ∧ ∀ o ∈ dl, Ent o) := fun o' d7 ho' => by
        refine step_nx ⟨dl ++ [o'], some (.int (i : Int)), some (.lst (iL (at_ hs (i : Int)))), some (.lst (held.map prD)), some d7, k8, k9, rfl, by rw [List.length_append, hdl]; rfl, fun x hx => ?_⟩
        rcases List.mem_append.mp hx with z | z
        · exact he x z
        · rw [List.mem_singleton.mp z]; exact ho'
      refine if_cut (C := fun o => StepTo o _) (fun e => ?_) (fun e => ?_)
      · walk_at "zz"
        exact last none _ ent_none
      · walk_at "zz"
        exact last o _ ho
    refine gen_rng (C := fun o => StepTo o _) (fun _ => False) (fun g => ∃ (q : Pr) (k8 k9 : Option D), g = St (some q) k8 k9 ∧ q ∈ ps) (fun j g => ∃ (k8 k9 : Option D), g = St none k8 k9) ⟨k8, k9, rfl⟩ ?_ ?_ ?_ ?_ (fun w z => z.elim)
    · rintro j g ⟨k8, k9, rfl⟩
      rfl
    · rintro j g hj ⟨k8, k9, rfl⟩
      dsimp only [St]
      walk_at "zz"
      have b1 := Int.emod_nonneg (at_ dr (i : Int) + (j : Int)) (b := ((held.length : Nat) : Int)) (by omega)
      have b2 := Int.emod_lt_of_pos (at_ dr (i : Int) + (j : Int)) (b := ((held.length : Nat) : Int)) (by omega)
      walk_at "zz"
      generalize hq : at_ held ((at_ dr (i : Int) + (j : Int)) % ((held.length : Nat) : Int)) = q
      have hqm : q ∈ ps := hin q (by rw [← hq]; exact at_mem b1 b2)
      have hqr := (hps q).mp hqm
      rewrite [dLc_filt opD]
      walk_at "lc"
      walk_at "zz"
      refine if_end (C := fun o => Turn o _ _ _) (fun e => ?_) (fun e => ?_)
      · walk_at "zz"
        exact turn_bk ⟨q, some _, some _, rfl, hqm⟩
      · walk_at "zz"
        exact turn_nx ⟨some _, some _, rfl⟩
    · rintro g ⟨k8, k9, rfl⟩
      exact fin none k8 k9 ent_none
    · rintro g ⟨q, k8, k9, rfl, hq⟩
      exact fin (some q) k8 k9 fun q' e => by cases e; have := (hps q).mp hq; omega
  · rintro g ⟨dl, k4, k5, k6, k7, k8, k9, rfl, hdl, he⟩
    walk_at "zz"
    exact gets_some ⟨dl, rfl, hdl, he⟩
theorem entry_spec (ok : PoolOk caps hs m) {dl : List (Option Pr)} (hl : 0 < dl.length ∧ dl.length ≤ 1000) (he : ∀ o ∈ dl, Ent o) {n : Int} (hn : 0 ≤ n ∧ n < 36000) :
    ∃ o : Option Pr, g_law_entry [.lst (iL caps), .lst (dl.map opD), .int n] = some (.v (opD o)) ∧ Ent o := by
  have h12 := ok.s12
  have h1 := ok.s1
  suffices h : Gets (g_law_entry [.lst (iL caps), .lst (dl.map opD), .int n]) fun w => ∃ o, w = .v (opD o) ∧ Ent o by
    obtain ⟨w, e, o, rfl, h⟩ := h
    exact ⟨o, e, h⟩
  have a1 := Int.emod_nonneg (n / 10) (b := ((caps.length : Nat) : Int)) (by omega)
  have a2 := Int.emod_lt_of_pos (n / 10) (b := ((caps.length : Nat) : Int)) (by omega)
  have b1 := Int.emod_nonneg (n / 600) (b := ((caps.length : Nat) : Int)) (by omega)
  have b2 := Int.emod_lt_of_pos (n / 600) (b := ((caps.length : Nat) : Int)) (by omega)
  have c1 := Int.emod_nonneg (n / 10) (b := ((dl.length : Nat) : Int)) (by omega)
  have c2 := Int.emod_lt_of_pos (n / 10) (b := ((dl.length : Nat) : Int)) (by omega)
  have get : ∀ (o : Option Pr) (d : D), d = opD o → Ent o → Gets (outW (some (.rt (.v d)))) fun w => ∃ o, w = .v (opD o) ∧ Ent o := fun o d e h => gets_some ⟨o, by rw [e], h⟩
  have pair : ∀ (x y : Int), (-1000 ≤ x ∧ x ≤ 1000) → (-1000 ≤ y ∧ y ≤ 1000) → Gets (outW (some (.rt (.v (prD (x, y)))))) fun w => ∃ o, w = .v (opD o) ∧ Ent o := fun x y hx hy => get (some (x, y)) _ rfl fun q e => by cases e; exact ⟨hx, hy⟩
  unfold g_law_entry t_law_entry
  walk_at "zz"
  generalize hlo : n / 10 % ((caps.length : Nat) : Int) = lo at a1 a2 ⊢
  generalize hhi : n / 600 % ((caps.length : Nat) : Int) = hi at b1 b2 ⊢
  refine if_cut (C := fun o => Gets (outW o) _) (fun e => ?_) (fun e => ?_)
  · walk_at "zz"
    exact get none _ rfl ent_none
  walk_at "zz"
  refine if_cut (C := fun o => Gets (outW o) _) (fun e => ?_) (fun e => ?_)
  · walk_at "zz"
    exact pair _ _ (by omega) (by omega)
  walk_at "zz"
  refine if_cut (C := fun o => Gets (outW o) _) (fun e => ?_) (fun e => ?_)
  · walk_at "zz"
    exact pair _ _ (by omega) (by omega)
  walk_at "zz"
  refine if_cut (C := fun o => Gets (outW o) _) (fun e => ?_) (fun e => ?_)
  · walk_at "zz"
    exact pair _ _ (by omega) (by omega)
  walk_at "zz"
  have eo := he _ (at_mem (xs := dl) c1 c2)
  generalize at_ dl (n / 10 % ((dl.length : Nat) : Int)) = o at eo ⊢
  refine if_cut (C := fun o => Gets (outW o) _) (fun e => ?_) (fun e => ?_)
  · walk_at "zz"
    refine pair _ _ ?_ ?_
    · split <;> omega
    · split <;> omega
  cases o with
  | none => simp at e
  | some q =>
    have hq := eo q rfl
    walk_at "zz"
    refine if_cut (C := fun o => Gets (outW o) _) (fun e => ?_) (fun e => ?_)
    · walk_at "zz"
      exact pair _ _ hq.2 hq.1
    · walk_at "zz"
      exact get (some q) _ rfl eo
theorem pw_of_adj {xs : List Int} (h : ∀ j : Nat, j + 1 < xs.length → at_ xs (j : Int) < at_ xs ((j + 1 : Nat) : Int)) : xs.Pairwise (· < ·) := by
  rw [List.pairwise_iff_getElem]
  have g : ∀ (j : Nat) (hj : j < xs.length), at_ xs (j : Int) = xs[j] := fun j hj => at_eq rfl (List.getElem?_eq_getElem hj)
  have st : ∀ (d i : Nat) (hi : i < xs.length) (hj : i + (d + 1) < xs.length), xs[i] < xs[i + (d + 1)] := by
    intro d
    induction d with
    | zero =>
      intro i hi hj
      have := h i hj
      rw [g i hi, g (i + 1) hj] at this
      exact this
    | succ d ih =>
      intro i hi hj
      have h1 := ih i hi (by omega)
      have h2 := h (i + (d + 1)) (by omega)
      rw [g _ (by omega), g _ (by omega)] at h2
      exact Int.lt_trans h1 h2
  intro i j hi hj hij
  have := st (j - i - 1) i hi (by omega)
  have e : i + (j - i - 1 + 1) = j := by omega
  simp only [e] at this
  exact this
theorem law_lot_spec (n : Nat) (xs : List Int) (hl : xs.length ≤ 1000) : g_law_is_lot [.lst (iL xs), .int (n : Int)] = some (.v (.bl (decide (Asc n xs)))) := by
  unfold g_law_is_lot t_law_is_lot
  walk_at "zz"
  refine gen_rng (C := fun o => outW o = some (.v (.bl (decide (Asc n xs))))) (fun w => w = .v (.bl false) ∧ ¬ Asc n xs) (fun _ => False)
    (fun i g => ∃ k : Option D, g = [some (.v (.lst (iL xs))), some (.v (.int (n : Int))), k.map Wd.v] ∧ ∀ j : Nat, j < i → (0 ≤ at_ xs (j : Int) ∧ at_ xs (j : Int) < (n : Int)) ∧ (0 < j → at_ xs ((j : Int) - 1) < at_ xs (j : Int))) ⟨none, rfl, fun j h => by omega⟩ ?_ ?_ ?_ (fun _ z => z.elim) ?_
  · rintro i g ⟨k, rfl, _⟩
    rfl
  · rintro i g hi ⟨k, rfl, hh⟩
    have g1 : at_ xs (i : Int) = xs[i] := at_eq rfl (List.getElem?_eq_getElem hi)
    have no : (0 ≤ at_ xs (i : Int) ∧ at_ xs (i : Int) < (n : Int)) ∧ (0 < i → at_ xs ((i : Int) - 1) < at_ xs (i : Int)) ∨ ¬ Asc n xs := by
      by_cases ha : Asc n xs
      · left
        refine ⟨ha.2 _ (at_mem (by omega) (by omega)), fun hi0 => ?_⟩
        have g2 : at_ xs ((i : Int) - 1) = xs[i - 1] := at_eq (m := i - 1) (by omega) (List.getElem?_eq_getElem (by omega))
        rw [g1, g2]
        exact List.pairwise_iff_getElem.mp ha.1 (i - 1) i (by omega) hi (by omega)
      · exact .inr ha
    by_cases hc : (0 ≤ at_ xs (i : Int) ∧ at_ xs (i : Int) < (n : Int)) ∧ (0 < i → at_ xs ((i : Int) - 1) < at_ xs (i : Int))
    · walk_at "zz"
      rw [decide_eq_false (by omega : ¬ at_ xs (i : Int) < 0)]
      walk_at "zz"
      rw [decide_eq_false (by omega : ¬ (n : Int) ≤ at_ xs (i : Int))]
      walk_at "zz"
      by_cases hi0 : 0 < i
      · rw [decide_eq_true (by omega : (0 : Int) < (i : Int))]
        have := hc.2 hi0
        walk_at "zz"
        rw [decide_eq_false (by omega : ¬ at_ xs (i : Int) ≤ at_ xs ((i : Int) - 1))]
        walk_at "zz"
        exact turn_nx ⟨some _, rfl, fun j hj => by
          by_cases z : j = i
          · rw [z]; exact hc
          · exact hh j (by omega)⟩
      · rw [decide_eq_false (by omega : ¬ (0 : Int) < (i : Int))]
        walk_at "zz"
        exact turn_nx ⟨some _, rfl, fun j hj => by
          by_cases z : j = i
          · rw [z]; exact hc
          · exact hh j (by omega)⟩
    · have hn : ¬ Asc n xs := no.resolve_left hc
      walk_at "zz"
      by_cases h1 : at_ xs (i : Int) < 0
      · rw [decide_eq_true h1]
        walk_at "zz"
        exact turn_rt ⟨rfl, hn⟩
      rw [decide_eq_false h1]
      walk_at "zz"
      by_cases h2 : (n : Int) ≤ at_ xs (i : Int)
      · rw [decide_eq_true h2]
        walk_at "zz"
        exact turn_rt ⟨rfl, hn⟩
      rw [decide_eq_false h2]
      walk_at "zz"
      have hi0 : 0 < i := Decidable.byContradiction fun z => hc ⟨⟨by omega, by omega⟩, fun y => absurd y z⟩
      rw [decide_eq_true (by omega : (0 : Int) < (i : Int))]
      walk_at "zz"
      have h3 : at_ xs (i : Int) ≤ at_ xs ((i : Int) - 1) := by
        have : ¬ (at_ xs ((i : Int) - 1) < at_ xs (i : Int)) := fun z => hc ⟨⟨by omega, by omega⟩, fun _ => z⟩
        omega
      rw [decide_eq_true h3]
      walk_at "zz"
      exact turn_rt ⟨rfl, hn⟩
  · rintro g ⟨k, rfl, hh⟩
    have ha : Asc n xs := ⟨pw_of_adj fun j hj => by
      have := (hh (j + 1) (by omega)).2 (by omega)
      rw [show (((j + 1 : Nat)) : Int) - 1 = (j : Int) by omega] at this
      exact this, fun x hx => by
      obtain ⟨j, hj, rfl⟩ := List.mem_iff_getElem.mp hx
      have := (hh j hj).1
      rw [show at_ xs (j : Int) = xs[j] from at_eq rfl (List.getElem?_eq_getElem hj)] at this
      exact this⟩
    walk_at "zz"
    rw [decide_eq_true ha]
  · rintro w ⟨rfl, hn⟩
    rw [decide_eq_false hn]
    rfl
theorem cut_gen (xs : List Int) (lo hi : Option Int) {P : Int → Prop} (h : ∀ x ∈ xs, P x) : ∃ ys : List Int, cutL (iL xs) lo hi = iL ys ∧ ys.length ≤ xs.length ∧ ∀ y ∈ ys, P y :=
  ⟨cutL xs lo hi, cutL_iL xs lo hi, (cutL_sub xs lo hi).length_le, fun y hy => h y ((cutL_sub xs lo hi).subset hy)⟩
def Sm (x : Int) : Prop := -1000 ≤ x ∧ x ≤ 1000
theorem spoilt_spec {lot : List Int} {n : Nat} (hn : n ≤ 60) (hl : lot.length ≤ 100) (hb : ∀ x ∈ lot, Sm x) {way spot pick : Int} (hw : 0 ≤ way ∧ way < 10) (hs0 : 0 ≤ spot) (hp : 0 ≤ pick) :
    ∃ xs : List Int, g_law_spoilt [.lst (iL lot), .int (n : Int), .int way, .int spot, .int pick] = some (.v (.lst (iL xs))) ∧ xs.length ≤ 300 ∧ ∀ x ∈ xs, Sm x := by
  suffices h : Gets (g_law_spoilt [.lst (iL lot), .int (n : Int), .int way, .int spot, .int pick]) fun w => ∃ xs : List Int, w = .v (.lst (iL xs)) ∧ xs.length ≤ 300 ∧ ∀ x ∈ xs, Sm x by
    obtain ⟨w, e, o, rfl, h⟩ := h
    exact ⟨o, e, h⟩
  have get : ∀ (xs : List Int) (d : D), d = .lst (iL xs) → xs.length ≤ 300 → (∀ x ∈ xs, Sm x) → Gets (outW (some (.rt (.v d)))) fun w => ∃ xs : List Int, w = .v (.lst (iL xs)) ∧ xs.length ≤ 300 ∧ ∀ x ∈ xs, Sm x := fun xs d e h1 h2 => gets_some ⟨xs, by rw [e], h1, h2⟩
  unfold g_law_spoilt t_law_spoilt
  walk_at "zz"
  refine if_cut (C := fun o => Gets (outW o) _) (fun e => ?_) (fun e => ?_)
  · walk_at "zz"
    exact get lot _ rfl (by omega) hb
  have hw5 : way < 5 := by have := of_decide_eq_false e; omega
  walk_at "zz"
  refine if_cut (C := fun o => Gets (outW o) _) (fun e => ?_) (fun e => ?_)
  · have e2 := of_decide_eq_true ((Bool.and_eq_true _ _).mp e).2
    have a1 := Int.emod_nonneg spot (b := ((lot.length : Nat) : Int) - 1) (by omega)
    have a2 := Int.emod_lt_of_pos spot (b := ((lot.length : Nat) : Int) - 1) (by omega)
    walk_at "zz"
    generalize hk : spot % (((lot.length : Nat) : Int) - 1) = k at a1 a2 ⊢
    obtain ⟨A, eA, lA, bA⟩ := cut_gen lot none (some k) hb
    obtain ⟨B, eB, lB, bB⟩ := cut_gen lot (some (k + 2)) none hb
    have m1 := hb _ (at_mem (xs := lot) (k := k) (by omega) (by omega))
    have m2 := hb _ (at_mem (xs := lot) (k := k + 1) (by omega) (by omega))
    rw [eA, eB]
    walk_at "zz"
    refine get (A ++ (at_ lot (k + 1) :: at_ lot k :: []) ++ B) _ ?_ ?_ ?_
    · unfold iL; simp
    · simp; omega
    · intro x hx
      simp only [List.mem_append, List.mem_cons, List.not_mem_nil, or_false] at hx
      rcases hx with (h | h | h) | h
      · exact bA x h
      · rw [h]; exact m2
      · rw [h]; exact m1
      · exact bB x h
  walk_at "zz"
  have hbb : Sm (at_ [(n : Int), -1, (n : Int) + 1, -(n : Int), 0] way) := by
    have : way = 0 ∨ way = 1 ∨ way = 2 ∨ way = 3 ∨ way = 4 := by omega
    rcases this with rfl | rfl | rfl | rfl | rfl
    · exact (show Sm (n : Int) by unfold Sm; omega)
    · exact (show Sm (-1) by unfold Sm; omega)
    · exact (show Sm ((n : Int) + 1) by unfold Sm; omega)
    · exact (show Sm (-(n : Int)) by unfold Sm; omega)
    · exact (show Sm 0 by unfold Sm; omega)
  have c1 := Int.emod_nonneg spot (b := ((lot.length : Nat) : Int) + 1) (by omega)
  have c2 := Int.emod_lt_of_pos spot (b := ((lot.length : Nat) : Int) + 1) (by omega)
  have fin : ∀ b : Int, Sm b → Gets (outW (apRet (ap2 addD (addD (.lst (cutL (iL lot) none (some (spot % (((lot.length : Nat) : Int) + 1))))) (.lst [.int b])) (some (.lst (cutL (iL lot) (some (spot % (((lot.length : Nat) : Int) + 1))) none)))))) fun w => ∃ xs : List Int, w = .v (.lst (iL xs)) ∧ xs.length ≤ 300 ∧ ∀ x ∈ xs, Sm x := fun b hb' => by
    generalize hk : spot % (((lot.length : Nat) : Int) + 1) = k at c1 c2 ⊢
    obtain ⟨A, eA, lA, bA⟩ := cut_gen lot none (some k) hb
    obtain ⟨B, eB, lB, bB⟩ := cut_gen lot (some k) none hb
    rw [eA, eB]
    walk_at "zz"
    refine get (A ++ [b] ++ B) _ ?_ ?_ ?_
    · unfold iL; simp
    · simp; omega
    · intro x hx
      simp only [List.mem_append, List.mem_cons, List.not_mem_nil, or_false] at hx
      rcases hx with (h | h) | h
      · exact bA x h
      · rw [h]; exact hb'
      · exact bB x h
  refine if_cut (C := fun o => Gets (outW o) _) (fun e => ?_) (fun e => ?_)
  · have e2 := of_decide_eq_true ((Bool.and_eq_true _ _).mp e).2
    have d1 := Int.emod_nonneg pick (b := ((lot.length : Nat) : Int)) (by omega)
    have d2 := Int.emod_lt_of_pos pick (b := ((lot.length : Nat) : Int)) (by omega)
    have m1 := hb _ (at_mem (xs := lot) d1 d2)
    walk_at "zz"
    exact fin _ m1
  · walk_at "zz"
    exact fin _ hbb
end
end Y
end

section
set_option Elab.async false
set_option linter.all false
set_option maxRecDepth 100000
set_option maxHeartbeats 4000000
/-! The dealing that is drawn. -/
namespace Y
open PySem L2 Zk Zc
local macro_rules | `(tactic| walk_at "zs") => `(tactic| simp only [beq_self_eq_true, Bool.or_false, Bool.false_or, Bool.true_or, Bool.or_true, Bool.and_false, Bool.false_and, Bool.true_and, Bool.and_true, Zc.isi_ii, Zc.isi_ib, Zc.isi_tt, Zc.isi_ll, Zc.rowsT_len, Zc.rowsL_len, Zc.is_integer_call, Zc.ix_p0, Zc.ix_p1, dgTup2_a, dgTup3_a, Bool.not_true, Bool.not_false, mul_lz, List.flatten_cons, List.flatten_nil, Int.reduceToNat, add_ll, pow10_12, pow10_18, pow10_39, pow10_41, pow10_59, pow10_60, mkLst_some, mkTup_some, List.length_cons, List.length_nil, Nat.zero_le, Nat.reduceAdd, Nat.reduceLeDiff, call1, callO1, call2, callO2, call3, callO3, call4, callO4, call5, callO5, call6, callO6, ap1_some, ap2_some, apN_some, apC_some, d1_a, d2_a, dN_a, aNil_a, aCons_a, dC_a, dVar_z, dVar_s, tDt_a, apAnd_t, apAnd_f, apOr_t, apOr_f, dAndT_a, dOrT_a, apNot_some, dNotT_a, apAndV_t, apAndV_f, dAndV_a, apOrV_t, apOrV_f, dOrV_a, apIf_t, apIf_f, dIf_a, apCh_t, apCh_f, apChain_some, dChain_a, apSeq_nx, apSeq_rt, apSeq_ct, apSeq_bk, sSeq_a, apIfS_t, apIfS_f, sIf_a, sNext_a, sCont_a, sBreak_a, apRet_some, sRet_a, apRetO_some, sRetO_a, sRetN_a, getO_z, getO_s, apRetV_some, sRetV_a, ltB_z, ltB_s, okSlot_s, apAsg_some, sAsg_a, dName_ok, apG_some, dgCons_a, dgNil_a, apAsgO_some, sAsgO_a, sApp_a, sSetI_a, apFor_some, sFor_a, dItems_a, dRng1_a, dRng2_a, apEn_some, apEn_tup, dEnum_a, sFrz_a, frzs_nil, frzs_cons, frzI_o, frzI_v, frzI_n, frzI_s, frz1_s, frzAll_nil, frzAll_o, frzAll_v, frzAll_n, peekT_a, apPk_int, apPk_bl, apPk_str, apPk_non, peekF_a, dCall_a, toO_o, dCallO_a, dMake_a, Wd_v, Wd_o, dSl_a, apSl_some, oNone_a, oSome_a, apO_some, add_ii, sub_ii, lt_ii, le_ii, gt_ii, ge_ii, eq_ii, ne_ii, neg_i, not_b, bl_b, tru_b, tru_i, tru_l, tru_t, tru_n, len_l, len_t, len_scr, abs_i, int_i, list_l, list_t, tuple_l, tuple_t, min_ii, max_ii, rev_l, items_l, items_t, iL_len, run_a, outW_rt, outW_nx, List.map_cons, List.map_nil, List.replicate, List.append_nil, List.cons_append, List.nil_append, List.set_cons_zero, List.set_cons_succ, Option.map_some])
local macro_rules | `(tactic| walk_at "zd") => `(tactic| first | ((with_reducible show okSlot _ _ = true); simp only [okSlot_s, ltB_z, ltB_s]; done) | omega | assumption | decide | (simp only [List.length_map, List.length_append, List.length_cons, List.length_nil, List.length_range, List.length_set, List.length_reverse, iL_len, Zc.rowsT_len, Zc.rowsL_len] at *; omega))
local macro_rules | `(tactic| walk_at "zz") => `(tactic| simp (disch := walk_at "zd") only [dgTup2_a, dgTup3_a, Bool.not_true, Bool.not_false, mul_lz, List.flatten_cons, List.flatten_nil, Int.reduceToNat, add_ll, pow10_12, pow10_18, pow10_39, pow10_41, pow10_59, pow10_60, mkLst_some, mkTup_some, List.length_cons, List.length_nil, Nat.zero_le, Nat.reduceAdd, Nat.reduceLeDiff, call1, callO1, call2, callO2, call3, callO3, call4, callO4, call5, callO5, call6, callO6, ap1_some, ap2_some, apN_some, apC_some, d1_a, d2_a, dN_a, aNil_a, aCons_a, dC_a, dVar_z, dVar_s, tDt_a, apAnd_t, apAnd_f, apOr_t, apOr_f, dAndT_a, dOrT_a, apNot_some, dNotT_a, apAndV_t, apAndV_f, dAndV_a, apOrV_t, apOrV_f, dOrV_a, apIf_t, apIf_f, dIf_a, apCh_t, apCh_f, apChain_some, dChain_a, apSeq_nx, apSeq_rt, apSeq_ct, apSeq_bk, sSeq_a, apIfS_t, apIfS_f, sIf_a, sNext_a, sCont_a, sBreak_a, apRet_some, sRet_a, apRetO_some, sRetO_a, sRetN_a, getO_z, getO_s, apRetV_some, sRetV_a, ltB_z, ltB_s, okSlot_s, apAsg_some, sAsg_a, dName_ok, apG_some, dgCons_a, dgNil_a, apAsgO_some, sAsgO_a, sApp_a, sSetI_a, apFor_some, sFor_a, dItems_a, dRng1_a, dRng2_a, apEn_some, apEn_tup, dEnum_a, sFrz_a, frzs_nil, frzs_cons, frzI_o, frzI_v, frzI_n, frzI_s, frz1_s, frzAll_nil, frzAll_o, frzAll_v, frzAll_n, peekT_a, apPk_int, apPk_bl, apPk_str, apPk_non, peekF_a, dCall_a, toO_o, dCallO_a, dMake_a, Wd_v, Wd_o, dSl_a, apSl_some, oNone_a, oSome_a, apO_some, add_ii, sub_ii, lt_ii, le_ii, gt_ii, ge_ii, eq_ii, ne_ii, neg_i, not_b, bl_b, tru_b, tru_i, tru_l, tru_t, tru_n, len_l, len_t, len_scr, abs_i, int_i, list_l, list_t, tuple_l, tuple_t, min_ii, max_ii, rev_l, items_l, items_t, iL_len, run_a, outW_rt, outW_nx, List.map_cons, List.map_nil, List.replicate, List.append_nil, List.cons_append, List.nil_append, List.set_cons_zero, List.set_cons_succ, Option.map_some, Int.reduceAdd, Int.reduceMul, Int.reduceSub, Int.reduceNeg, beq_self_eq_true, Bool.or_false, Bool.false_or, Bool.true_or, Bool.or_true, Bool.and_false, Bool.false_and, Bool.true_and, Bool.and_true, Zc.isi_ii, Zc.isi_ib, Zc.isi_tt, Zc.isi_ll, Zc.rowsT_len, Zc.rowsL_len, Zc.is_integer_call, Zc.ix_p0, Zc.ix_p1, apR1_any, Int.toNat_natCast, apR2_some, mod_ii, fdiv_ii, mul_small, apApp_some, ix_at, ix_atT, ix_atI, ix_atIT, ix_atR, ix_atRT, List.length_map, List.length_append, List.length_range, List.length_set, Option.map_none, Option.map_map, decide_true, decide_false, peekO_a, apPkO_i, frz_wo, frz_wv, frz_kk, wipeG_nil, wipeG_cons, orB_s, orB_t, orB_f, andB_s, andB_t, andB_f, orV_s, orV_t, orV_f, andV_s, andV_t, andV_f, apOr_b, apAnd_b, apOrV_b, apAndV_b, apCh_b, Zc.cut_from, Zc.cut_to, in_l, in_t, in_pr, eq_op_op, eq_op_pr, eq_pr_op, eq_pr_pr, ne_op_op, ne_op_pr, ne_pr_op, ne_pr_pr, isnt_op, is_op, pr_0, pr_1, st_0, st_1, inP_pr, ninP_pr, nin_l, isi_prt, len_pr, op_some, prD_eq, ix_lit2, ix_lit3, ix_lit4, ix_lit5, ix_lit6, ix_lit7, ix_lit8, ix_lit9, ix_lit10, ix_lit11, ix_lit12, ix_lit13, ix_lit14, ix_lit15, setI_i, setI_p, setI_o, setI_n, snoc_i, snoc_r, snoc_p, snoc_n, snoc_o, snoc_pp, snoc_s, eq_ol, ne_ol, eq_pl, ne_pl, eq_sl, ne_sl, eq_il, ne_il, eq_rl, ne_rl, eq_il1, isi_bb, eq_bb, ne_bb, Zg.peekS_a])
local macro_rules | `(tactic| walk_at "zf") => `(tactic| first | (walk_at "zz"; done) | (walk_at "zz"; rfl) | rfl)
local macro_rules | `(tactic| walk_at "lc") => `(tactic| ((case hf => rfl); (case hi => first | (walk_at "zz"; done) | (walk_at "zz"; rfl) | rfl); (case hl => walk_at "zd"); (case h => (intro a ha; refine ⟨_, dName_ok rfl, ?_, fun hT => ?_⟩ <;> walk_at "zz" <;> rfl))))
local macro_rules | `(tactic| walk_at "lm") => `(tactic| ((case hf => rfl); (case hi => first | (walk_at "zz"; done) | (walk_at "zz"; rfl) | rfl); (case hl => walk_at "zd"); (case h => (intro a ha; refine ⟨_, dName_ok rfl, ?_⟩; walk_at "zz"; rfl))))
theorem lc_ops {tg : DGF} {tt : DTF} {te : DF} {g : Gm} (P : Option Pr → Prop) : ∀ (is : List D), (∀ d, d ∈ is → ∃ g1 o, tg d g = some g1 ∧ tt g1 = some true ∧ te g1 = some (opD o) ∧ P o) →
    ∃ os : List (Option Pr), lcL tg tt te g is = some (os.map opD) ∧ os.length = is.length ∧ ∀ o ∈ os, P o
  | [], _ => ⟨[], rfl, rfl, fun o h => by cases h⟩
  | d :: is, h => by
    obtain ⟨g1, o, h1, h2, h3, h4⟩ := h d List.mem_cons_self
    obtain ⟨os, e1, e2, e3⟩ := lc_ops P is fun x hx => h x (List.mem_cons_of_mem _ hx)
    refine ⟨o :: os, ?_, by rw [List.length_cons, List.length_cons, e2], fun x hx => ?_⟩
    · unfold lcL
      rw [h1, Option.bind_some, h2, Option.bind_some, if_pos rfl, h3, Option.bind_some, e1]
      rfl
    · rcases List.mem_cons.mp hx with rfl | z
      · exact h4
      · exact e3 x z
theorem cutL_map {α β : Type} (f : α → β) (xs : List α) (lo hi : Option Int) : cutL (xs.map f) lo hi = (cutL xs lo hi).map f := by
  unfold cutL
  rw [List.map_take, List.map_drop, List.length_map]
theorem cut_ops (xs : List (Option Pr)) (lo hi : Option Int) {P : Option Pr → Prop} (h : ∀ x ∈ xs, P x) : ∃ ys : List (Option Pr), cutL (xs.map opD) lo hi = ys.map opD ∧ ys.length ≤ xs.length ∧ ∀ y ∈ ys, P y :=
  ⟨cutL xs lo hi, cutL_map opD xs lo hi, (cutL_sub xs lo hi).length_le, fun y hy => h y ((cutL_sub xs lo hi).subset hy)⟩
theorem sh_op (o : Option Pr) : Zg.shD (opD o) = true := by cases o <;> rfl
section
variable {caps : List Int} {hs : List (List Int)} {m : Nat}
def szM : List Int := List.replicate 24 300 ++ List.replicate 24 36000
theorem drawn_spec (ok : PoolOk caps hs m) (hm : m ≤ 24) {ds mo : List Int} (hb : Below ds [6, 4, 840, 36000, 2, 8, 840, 36000]) (hmo : Below mo szM) :
    ∃ dl : List (Option Pr), g_law_drawn_dealing [.lst (iL caps), .lst (rowsL hs), .lst (iL ds), .lst (iL mo)] = some (.v (.lst (dl.map opD))) ∧ dl.length ≤ 100 ∧ ∀ o ∈ dl, Ent o := by
  have h12 := ok.s12
  have h1 := ok.s1
  have hpm := ok.pm
  have hdl := hb.len
  have hml := hmo.len
  have hml2 : mo.length = 48 := hml
  have hdl2 : ds.length = 8 := hdl
  suffices h : Gets (g_law_drawn_dealing [.lst (iL caps), .lst (rowsL hs), .lst (iL ds), .lst (iL mo)]) fun w => ∃ dl : List (Option Pr), w = .v (.lst (dl.map opD)) ∧ dl.length ≤ 100 ∧ ∀ o ∈ dl, Ent o by
    obtain ⟨w, e, o, rfl, h⟩ := h
    exact ⟨o, e, h⟩
  have moB : ∀ x ∈ mo, 0 ≤ x ∧ x < 36000 := fun x hx => by
    obtain ⟨j, hj⟩ := List.mem_iff_getElem?.mp hx
    have hjl := (List.getElem?_eq_some_iff.mp hj).1
    have all : ∀ s ∈ szM, s ≤ 36000 := fun s hs => by
      unfold szM at hs
      rcases List.mem_append.mp hs with z | z
      · rw [(List.mem_replicate.mp z).2]; decide
      · rw [(List.mem_replicate.mp z).2]; exact Int.le_refl _
    have hj2 : j < szM.length := by rw [← hml]; exact hjl
    have hs1 : ∃ s, szM[j]? = some s ∧ s ≤ 36000 := ⟨szM[j], List.getElem?_eq_getElem hj2, all _ (List.getElem_mem hj2)⟩
    obtain ⟨s, e1, e2⟩ := hs1
    have := hmo.2 j x s hj e1
    omega
  obtain ⟨dl0, e0, l0, b0⟩ := filled_spec ok (by omega) (dr := mo) (by omega) fun x hx => by have := moB x hx; omega
  have d2b := hb.at (k := 2) 840 (by decide) rfl
  have d3b := hb.at (k := 3) 36000 (by decide) rfl
  have d4b := hb.at (k := 4) 2 (by decide) rfl
  unfold g_law_drawn_dealing t_law_drawn_dealing
  rw [e_pairs]
  walk_at "zz"
  rw [e0]
  walk_at "zz"
  let St : Wd → Option D → Option D → Option D → Option D → Gm := fun w k6 k7 k8 k9 => [some (.v (.lst (iL caps))), some (.v (.lst (rowsL hs))), some (.v (.lst (iL ds))), some (.v (.lst (iL mo))), some w, some (.v (.int ((dl0.length : Nat) : Int))), k6.map Wd.v, k7.map Wd.v, k8.map Wd.v, k9.map Wd.v, none]
  let J1 : Gm → Prop := fun g => ∃ (dl : List (Option Pr)) (k6 k7 k8 k9 : Option D), g = St (.o (.lst (dl.map opD))) k6 k7 k8 k9 ∧ dl.length = hs.length ∧ ∀ o ∈ dl, Ent o
  let J2 : Gm → Prop := fun g => ∃ (dl : List (Option Pr)) (w : Wd) (k6 k7 k8 k9 : Option D), g = St w k6 k7 k8 k9 ∧ (w = .o (.lst (dl.map opD)) ∨ w = .v (.lst (dl.map opD))) ∧ dl.length ≤ 90 ∧ ∀ o ∈ dl, Ent o
  refine seq_then (C := fun o => Gets (outW o) _) J1 ?_ ?_
  · by_cases hc : (at_ ds 1 == 1 && decide (0 < ((dl0.length : Nat) : Int))) = true
    · rw [hc]
      have hc2 := of_decide_eq_true ((Bool.and_eq_true _ _).mp hc).2
      obtain ⟨o, eo, ho⟩ := entry_spec ok (dl := dl0) (by omega) b0 d3b
      have a1 := Int.emod_nonneg (at_ ds 2) (b := ((dl0.length : Nat) : Int)) (by omega)
      have a2 := Int.emod_lt_of_pos (at_ ds 2) (b := ((dl0.length : Nat) : Int)) (by omega)
      walk_at "zz"
      rw [eo]
      walk_at "zz"
      rw [Zg.apPkS_some (sh_op o)]
      walk_at "zz"
      refine ⟨_, rfl, dl0.set (at_ ds 2 % ((dl0.length : Nat) : Int)).toNat o, none, none, none, none, rfl, by rw [List.length_set]; exact l0, fun x hx => ?_⟩
      rcases List.mem_or_eq_of_mem_set hx with z | z
      · exact b0 x z
      · rw [z]; exact ho
    · rw [Bool.not_eq_true] at hc
      rw [hc]
      walk_at "zz"
      exact ⟨_, rfl, dl0, none, none, none, none, rfl, l0, b0⟩
  · rintro g ⟨dl, k6, k7, k8, k9, rfl, hl1, hb1⟩
    dsimp only [St]
    walk_at "zz"
    refine seq_then (C := fun o => Gets (outW o) _) J1 ?_ ?_
    · by_cases hc : (at_ ds 1 == 2 && decide (1 < ((caps.length : Nat) : Int))) = true
      · rw [hc]
        have hc2 := of_decide_eq_true ((Bool.and_eq_true _ _).mp hc).2
        obtain ⟨ps, hp, hps⟩ := pairsL_prD caps.length
        have hpl : ps.length ≤ 1000 := by
          have e : (pairsL caps.length).length = ps.length := by rw [hp, List.length_map]
          have := flat_len caps.length caps.length
          have h2 : caps.length * caps.length ≤ 12 * 12 := Nat.mul_le_mul h12 h12
          unfold pairsL at e
          omega
        have hp0 : 0 < ps.length := List.length_pos_of_mem ((hps (0, 1)).mpr ⟨by decide, by decide, hc2⟩)
        walk_at "zz"
        rw [Zc.pairs_spec caps.length (by omega)]
        walk_at "zz"
        rw [hp]
        have a1 := Int.emod_nonneg (at_ ds 2) (b := ((ps.length : Nat) : Int)) (by omega)
        have a2 := Int.emod_lt_of_pos (at_ ds 2) (b := ((ps.length : Nat) : Int)) (by omega)
        walk_at "zz"
        have hq := (hps _).mp (at_mem (xs := ps) a1 a2)
        generalize at_ ps (at_ ds 2 % ((ps.length : Nat) : Int)) = q at hq ⊢
        walk_at "zz"
        generalize (if at_ caps q.2 < at_ caps q.1 then at_ caps q.2 else at_ caps q.1) + at_ ds 4 = left
        obtain ⟨g', eg, hg⟩ := loop_by (f := dName 9) (ds := rowsL hs) (s := (sIf (dAndT (tDt blD (d2 gtD (dVar 8) (dC (.int 0)))) (dAndT (tDt blD (d2 inD (d2 ixD (dVar 7) (dC (.int 0))) (dVar 9))) (tDt blD (d2 inD (d2 ixD (dVar 7) (dC (.int 1))) (dVar 9)))))
 (sSeq (sApp 4 (dVar 7))
 (sAsg (d2 subD (dVar 8) (dC (.int 1))) (dName 8)))
 (sApp 4 (dC .non))))
          (fun i g => ∃ (dl : List (Option Pr)) (left : Int) (k9 : Option D), g = St (.o (.lst (dl.map opD))) (some (.lst (ps.map prD))) (some (prD q)) (some (.int left)) k9 ∧ dl.length = i ∧ ∀ o ∈ dl, Ent o)
          (g := St (.o (.lst [])) (some (.lst (ps.map prD))) (some (prD q)) (some (.int left)) k9) ⟨[], left, k9, rfl, rfl, fun o h => by cases h⟩ (by
            rintro i d g hd ⟨dl, left, k9, rfl, hl2, hb2⟩
            obtain ⟨r, hr1, rfl⟩ := rowsL_get hd
            have hi := (List.getElem?_eq_some_iff.mp hr1).1
            refine ⟨_, dName_ok rfl, ?_⟩
            dsimp only [St]
            walk_at "zz"
            refine if_end (C := fun o => StepTo o _) (fun e => ?_) (fun e => ?_)
            · walk_at "zz"
              refine step_nx ⟨dl ++ [some q], left - 1, some (.lst (iL r)), rfl, by rw [List.length_append, hl2]; rfl, fun x hx => ?_⟩
              rcases List.mem_append.mp hx with z | z
              · exact hb2 x z
              · rw [List.mem_singleton.mp z]
                exact fun q' e => by cases e; omega
            · walk_at "zz"
              refine step_nx ⟨dl ++ [none], left, some (.lst (iL r)), rfl, by rw [List.length_append, hl2]; rfl, fun x hx => ?_⟩
              rcases List.mem_append.mp hx with z | z
              · exact hb2 x z
              · rw [List.mem_singleton.mp z]; exact ent_none)
        obtain ⟨dl', left', k9', rfl, hl3, hb3⟩ := hg
        refine ⟨_, eg, dl', _, _, _, _, rfl, ?_, hb3⟩
        rw [hl3, Zc.rowsL_len]
      · rw [Bool.not_eq_true] at hc
        rw [hc]
        walk_at "zz"
        exact ⟨_, rfl, dl, k6, k7, k8, k9, rfl, hl1, hb1⟩
    · rintro g ⟨dl, k6, k7, k8, k9, rfl, hl1, hb1⟩
      dsimp only [St]
      walk_at "zz"
      refine seq_then (C := fun o => Gets (outW o) _) J1 ?_ ?_
      · by_cases hc : (at_ ds 1 == 3) = true
        · rw [hc]
          walk_at "zz"
          obtain ⟨os, e1, e2, e3⟩ := lc_ops (tg := dName 10) (tt := dYes) (te := dCall 3 g_law_entry (aCons (dVar 0) (aCons (dVar 4) (aCons (d2 ixD (dVar 3) (d2 addD (dC (.int 24)) (dVar 10))) aNil)))) (g := St (.v (.lst (dl.map opD))) k6 k7 k8 k9) Ent (rngL 0 dl0.length) fun d hd => by
            obtain ⟨i, hi, rfl⟩ := rng_mem hd
            have hn := moB _ (at_mem (xs := mo) (k := 24 + (0 + (i : Int))) (by omega) (by omega))
            obtain ⟨o, eo, ho⟩ := entry_spec ok (dl := dl) (by omega) hb1 hn
            refine ⟨_, o, dName_ok rfl, rfl, ?_, ho⟩
            dsimp only [St]
            walk_at "zz"
            rw [eo]
            rfl
          rw [dLc_eq (ds := rngL 0 dl0.length) (by cases k6 <;> cases k7 <;> cases k8 <;> cases k9 <;> rfl) (by walk_at "zz") (by rw [rng_len]; omega) e1]
          walk_at "zz"
          exact ⟨_, rfl, os, k6, k7, k8, k9, rfl, by rw [e2, rng_len]; omega, e3⟩
        · rw [Bool.not_eq_true] at hc
          rw [hc]
          walk_at "zz"
          exact ⟨_, rfl, dl, k6, k7, k8, k9, rfl, hl1, hb1⟩
      · rintro g ⟨dl, k6, k7, k8, k9, rfl, hl1, hb1⟩
        dsimp only [St]
        walk_at "zz"
        refine seq_then (C := fun o => Gets (outW o) _) J2 ?_ ?_
        · by_cases hc : (at_ ds 5 == 1) = true
          · rw [hc]
            walk_at "zz"
            obtain ⟨ys, ey, ly, by1⟩ := cut_ops dl none (some (if ((dl0.length : Nat) : Int) - 1 > 0 then ((dl0.length : Nat) : Int) - 1 else 0)) hb1
            exact ⟨_, rfl, ys, _, k6, k7, k8, k9, rfl, .inr (by rw [ey]), by omega, by1⟩
          · rw [Bool.not_eq_true] at hc
            rw [hc]
            walk_at "zz"
            exact ⟨_, rfl, dl, _, k6, k7, k8, k9, rfl, .inl rfl, by omega, hb1⟩
        · rintro g ⟨dl, w, k6, k7, k8, k9, rfl, hw, hl1, hb1⟩
          dsimp only [St]
          have yes : (at_ ds 5 == 2) = true → ∀ w : Wd, (w = .o (.lst (dl.map opD)) ∨ w = .v (.lst (dl.map opD))) → Gets (some (Wd.v (.lst ((dl ++ [none]).map opD)))) fun w => ∃ dl : List (Option Pr), w = .v (.lst (dl.map opD)) ∧ dl.length ≤ 100 ∧ ∀ o ∈ dl, Ent o := fun _ _ _ =>
            gets_some ⟨dl ++ [none], rfl, by rw [List.length_append]; simp; omega, fun x hx => by
              rcases List.mem_append.mp hx with z | z
              · exact hb1 x z
              · rw [List.mem_singleton.mp z]; exact ent_none⟩
          by_cases hc : (at_ ds 5 == 2) = true
          · rcases hw with rfl | rfl
            · walk_at "zz"
              rw [hc]
              walk_at "zz"
              exact yes hc _ (.inl rfl)
            · walk_at "zz"
              rw [hc]
              walk_at "zz"
              exact yes hc _ (.inl rfl)
          · rw [Bool.not_eq_true] at hc
            rcases hw with rfl | rfl
            · walk_at "zz"
              rw [hc]
              walk_at "zz"
              exact gets_some ⟨dl, rfl, by omega, hb1⟩
            · walk_at "zz"
              rw [hc]
              walk_at "zz"
              exact gets_some ⟨dl, rfl, by omega, hb1⟩
end
end Y
end

section
set_option Elab.async false
set_option linter.all false
set_option maxRecDepth 100000
set_option maxHeartbeats 4000000
/-! repr; the asking; the law. -/
namespace Y
open PySem L2 Zk Zc PyProof.Rows
local macro_rules | `(tactic| walk_at "zs") => `(tactic| simp only [beq_self_eq_true, Bool.or_false, Bool.false_or, Bool.true_or, Bool.or_true, Bool.and_false, Bool.false_and, Bool.true_and, Bool.and_true, Zc.isi_ii, Zc.isi_ib, Zc.isi_tt, Zc.isi_ll, Zc.rowsT_len, Zc.rowsL_len, Zc.is_integer_call, Zc.ix_p0, Zc.ix_p1, dgTup2_a, dgTup3_a, Bool.not_true, Bool.not_false, mul_lz, List.flatten_cons, List.flatten_nil, Int.reduceToNat, add_ll, pow10_12, pow10_18, pow10_39, pow10_41, pow10_59, pow10_60, mkLst_some, mkTup_some, List.length_cons, List.length_nil, Nat.zero_le, Nat.reduceAdd, Nat.reduceLeDiff, call1, callO1, call2, callO2, call3, callO3, call4, callO4, call5, callO5, call6, callO6, ap1_some, ap2_some, apN_some, apC_some, d1_a, d2_a, dN_a, aNil_a, aCons_a, dC_a, dVar_z, dVar_s, tDt_a, apAnd_t, apAnd_f, apOr_t, apOr_f, dAndT_a, dOrT_a, apNot_some, dNotT_a, apAndV_t, apAndV_f, dAndV_a, apOrV_t, apOrV_f, dOrV_a, apIf_t, apIf_f, dIf_a, apCh_t, apCh_f, apChain_some, dChain_a, apSeq_nx, apSeq_rt, apSeq_ct, apSeq_bk, sSeq_a, apIfS_t, apIfS_f, sIf_a, sNext_a, sCont_a, sBreak_a, apRet_some, sRet_a, apRetO_some, sRetO_a, sRetN_a, getO_z, getO_s, apRetV_some, sRetV_a, ltB_z, ltB_s, okSlot_s, apAsg_some, sAsg_a, dName_ok, apG_some, dgCons_a, dgNil_a, apAsgO_some, sAsgO_a, sApp_a, sSetI_a, apFor_some, sFor_a, dItems_a, dRng1_a, dRng2_a, apEn_some, apEn_tup, dEnum_a, sFrz_a, frzs_nil, frzs_cons, frzI_o, frzI_v, frzI_n, frzI_s, frz1_s, frzAll_nil, frzAll_o, frzAll_v, frzAll_n, peekT_a, apPk_int, apPk_bl, apPk_str, apPk_non, peekF_a, dCall_a, toO_o, dCallO_a, dMake_a, Wd_v, Wd_o, dSl_a, apSl_some, oNone_a, oSome_a, apO_some, add_ii, sub_ii, lt_ii, le_ii, gt_ii, ge_ii, eq_ii, ne_ii, neg_i, not_b, bl_b, tru_b, tru_i, tru_l, tru_t, tru_n, len_l, len_t, len_scr, abs_i, int_i, list_l, list_t, tuple_l, tuple_t, min_ii, max_ii, rev_l, items_l, items_t, iL_len, run_a, outW_rt, outW_nx, List.map_cons, List.map_nil, List.replicate, List.append_nil, List.cons_append, List.nil_append, List.set_cons_zero, List.set_cons_succ, Option.map_some])
local macro_rules | `(tactic| walk_at "zd") => `(tactic| first | ((with_reducible show okSlot _ _ = true); simp only [okSlot_s, ltB_z, ltB_s]; done) | omega | assumption | decide | (simp only [List.length_map, List.length_append, List.length_cons, List.length_nil, List.length_range, List.length_set, List.length_reverse, iL_len, Zc.rowsT_len, Zc.rowsL_len] at *; omega))
local macro_rules | `(tactic| walk_at "zz") => `(tactic| simp (disch := walk_at "zd") only [dgTup2_a, dgTup3_a, Bool.not_true, Bool.not_false, mul_lz, List.flatten_cons, List.flatten_nil, Int.reduceToNat, add_ll, pow10_12, pow10_18, pow10_39, pow10_41, pow10_59, pow10_60, mkLst_some, mkTup_some, List.length_cons, List.length_nil, Nat.zero_le, Nat.reduceAdd, Nat.reduceLeDiff, call1, callO1, call2, callO2, call3, callO3, call4, callO4, call5, callO5, call6, callO6, ap1_some, ap2_some, apN_some, apC_some, d1_a, d2_a, dN_a, aNil_a, aCons_a, dC_a, dVar_z, dVar_s, tDt_a, apAnd_t, apAnd_f, apOr_t, apOr_f, dAndT_a, dOrT_a, apNot_some, dNotT_a, apAndV_t, apAndV_f, dAndV_a, apOrV_t, apOrV_f, dOrV_a, apIf_t, apIf_f, dIf_a, apCh_t, apCh_f, apChain_some, dChain_a, apSeq_nx, apSeq_rt, apSeq_ct, apSeq_bk, sSeq_a, apIfS_t, apIfS_f, sIf_a, sNext_a, sCont_a, sBreak_a, apRet_some, sRet_a, apRetO_some, sRetO_a, sRetN_a, getO_z, getO_s, apRetV_some, sRetV_a, ltB_z, ltB_s, okSlot_s, apAsg_some, sAsg_a, dName_ok, apG_some, dgCons_a, dgNil_a, apAsgO_some, sAsgO_a, sApp_a, sSetI_a, apFor_some, sFor_a, dItems_a, dRng1_a, dRng2_a, apEn_some, apEn_tup, dEnum_a, sFrz_a, frzs_nil, frzs_cons, frzI_o, frzI_v, frzI_n, frzI_s, frz1_s, frzAll_nil, frzAll_o, frzAll_v, frzAll_n, peekT_a, apPk_int, apPk_bl, apPk_str, apPk_non, peekF_a, dCall_a, toO_o, dCallO_a, dMake_a, Wd_v, Wd_o, dSl_a, apSl_some, oNone_a, oSome_a, apO_some, add_ii, sub_ii, lt_ii, le_ii, gt_ii, ge_ii, eq_ii, ne_ii, neg_i, not_b, bl_b, tru_b, tru_i, tru_l, tru_t, tru_n, len_l, len_t, len_scr, abs_i, int_i, list_l, list_t, tuple_l, tuple_t, min_ii, max_ii, rev_l, items_l, items_t, iL_len, run_a, outW_rt, outW_nx, List.map_cons, List.map_nil, List.replicate, List.append_nil, List.cons_append, List.nil_append, List.set_cons_zero, List.set_cons_succ, Option.map_some, Int.reduceAdd, Int.reduceMul, Int.reduceSub, Int.reduceNeg, beq_self_eq_true, Bool.or_false, Bool.false_or, Bool.true_or, Bool.or_true, Bool.and_false, Bool.false_and, Bool.true_and, Bool.and_true, Zc.isi_ii, Zc.isi_ib, Zc.isi_tt, Zc.isi_ll, Zc.rowsT_len, Zc.rowsL_len, Zc.is_integer_call, Zc.ix_p0, Zc.ix_p1, apR1_any, Int.toNat_natCast, apR2_some, mod_ii, fdiv_ii, mul_small, apApp_some, ix_at, ix_atT, ix_atI, ix_atIT, ix_atR, ix_atRT, List.length_map, List.length_append, List.length_range, List.length_set, Option.map_none, Option.map_map, decide_true, decide_false, peekO_a, apPkO_i, frz_wo, frz_wv, frz_kk, wipeG_nil, wipeG_cons, orB_s, orB_t, orB_f, andB_s, andB_t, andB_f, orV_s, orV_t, orV_f, andV_s, andV_t, andV_f, apOr_b, apAnd_b, apOrV_b, apAndV_b, apCh_b, Zc.cut_from, Zc.cut_to, in_l, in_t, in_pr, eq_op_op, eq_op_pr, eq_pr_op, eq_pr_pr, ne_op_op, ne_op_pr, ne_pr_op, ne_pr_pr, isnt_op, is_op, pr_0, pr_1, st_0, st_1, inP_pr, ninP_pr, nin_l, isi_prt, len_pr, op_some, prD_eq, ix_lit2, ix_lit3, ix_lit4, ix_lit5, ix_lit6, ix_lit7, ix_lit8, ix_lit9, ix_lit10, ix_lit11, ix_lit12, ix_lit13, ix_lit14, ix_lit15, setI_i, setI_p, setI_o, setI_n, snoc_i, snoc_r, snoc_p, snoc_n, snoc_o, snoc_pp, snoc_s, eq_ol, ne_ol, eq_pl, ne_pl, eq_sl, ne_sl, eq_il, ne_il, eq_rl, ne_rl, eq_il1, isi_bb, eq_bb, ne_bb, Zg.peekS_a])
local macro_rules | `(tactic| walk_at "zf") => `(tactic| first | (walk_at "zz"; done) | (walk_at "zz"; rfl) | rfl)
local macro_rules | `(tactic| walk_at "lc") => `(tactic| ((case hf => rfl); (case hi => first | (walk_at "zz"; done) | (walk_at "zz"; rfl) | rfl); (case hl => walk_at "zd"); (case h => (intro a ha; refine ⟨_, dName_ok rfl, ?_, fun hT => ?_⟩ <;> walk_at "zz" <;> rfl))))
local macro_rules | `(tactic| walk_at "lm") => `(tactic| ((case hf => rfl); (case hi => first | (walk_at "zz"; done) | (walk_at "zz"; rfl) | rfl); (case hl => walk_at "zd"); (case h => (intro a ha; refine ⟨_, dName_ok rfl, ?_⟩; walk_at "zz"; rfl))))
theorem light_int {i : Int} (h : -1000 ≤ i ∧ i ≤ 1000) : (PyData.int i).weight ≤ 12 := by
  have : i.natAbs ≠ 0 → i.natAbs.log2 < 10 := fun z => (Nat.log2_lt z).mpr (by omega)
  simp only [PyData.weight]
  split
  · omega
  · rename_i z
    have z2 : ¬ i = 0 := by simpa using z
    have := this (by omega)
    omega
theorem short_op {o : Option Pr} (h : Ent o) : (opP o).showable = true ∧ (opP o).intsShort 13 = true ∧ (opP o).weight ≤ 60 := by
  cases o with
  | none => exact ⟨rfl, rfl, by decide⟩
  | some q =>
    have z := h q rfl
    have a := short_int (i := q.1) (by omega)
    have b := short_int (i := q.2) (by omega)
    refine ⟨?_, ?_, ?_⟩
    · show (PyData.showable (.int q.1) && (PyData.showable (.int q.2) && true)) = true
      rw [a.2, b.2]; rfl
    · show (PyData.intsShort 13 (.int q.1) && (PyData.intsShort 13 (.int q.2) && true)) = true
      rw [a.1, b.1]; rfl
    · have c1 := light_int (i := q.1) (by omega)
      have c2 := light_int (i := q.2) (by omega)
      have e : (PyData.tuple [.int q.1, .int q.2]).weight ≤ (PyData.int q.1).weight + (PyData.int q.2).weight + 8 := by simp only [PyData.weight, PyData.weightAll]; omega
      exact Nat.le_trans e (by omega)
theorem repr_ops {dl : List (Option Pr)} (hl : dl.length ≤ 1000) (he : ∀ o ∈ dl, Ent o) : Zg.reprD [.lst (dl.map opD)] = some (.str (PyData.list (dl.map opP)).shown) :=
  repr_enc encOp (by decide) (B := 13) (W := 60) (by decide) (fun o h => short_op (he o h)) (by omega)
theorem repr_ints {xs : List Int} (hl : xs.length ≤ 1000) (he : ∀ x ∈ xs, Sm x) : Zg.reprD [.lst (iL xs)] = some (.str (PyData.list (xs.map PyData.int)).shown) :=
  repr_enc encInt (by decide) (B := 13) (W := 60) (by decide) (fun x h => by
    have := he x h
    unfold Sm at this
    have a := short_int (i := x) (by omega)
    exact ⟨a.2, a.1, Nat.le_trans (light_int this) (by decide)⟩) (by omega)
theorem free_of {k : Nat} (hk : 1114112 ≤ k) (xs : List PyData) (h : ∀ x ∈ xs, k ∉ x.shown.cps.toList) : k ∉ (PyData.list xs).shown.cps.toList := by
  rw [PyData.shown_list, mem_cps_append, mem_cps_append, signs_lbrack, signs_rbrack, mem_join]
  rintro ((z | (⟨t, ht, hc⟩ | ⟨_, z⟩)) | z)
  · simp only [List.mem_cons, List.not_mem_nil, or_false] at z; omega
  · exact shownAll_free h t ht hc
  · rw [signs_sep] at z
    simp only [List.mem_cons, List.not_mem_nil, or_false] at z; omega
  · simp only [List.mem_cons, List.not_mem_nil, or_false] at z; omega
theorem free_two {k : Nat} (hk : 1114112 ≤ k) (x y : PyData) (hx : k ∉ x.shown.cps.toList) (hy : k ∉ y.shown.cps.toList) : k ∉ (PyData.tuple [x, y]).shown.cps.toList := by
  rw [PyData.shown_tuple, mem_cps_append, mem_cps_append, signs_lparen, mem_join]
  rintro ((z | (⟨t, ht, hc⟩ | ⟨_, z⟩)) | z)
  · simp only [List.mem_cons, List.not_mem_nil, or_false] at z; omega
  · refine shownAll_free (xs := [x, y]) (fun w hw => ?_) t ht hc
    simp only [List.mem_cons, List.not_mem_nil, or_false] at hw
    rcases hw with rfl | rfl
    · exact hx
    · exact hy
  · rw [signs_sep] at z
    simp only [List.mem_cons, List.not_mem_nil, or_false] at z; omega
  · have e : (((")" : String) : Str)).cps.toList = [41] := by decide
    have z2 : k ∈ (((")" : String) : Str)).cps.toList := z
    rw [e] at z2
    simp only [List.mem_cons, List.not_mem_nil, or_false] at z2; omega
theorem free_op {k : Nat} (hk : 1114112 ≤ k) (o : Option Pr) : k ∉ (opP o).shown.cps.toList := by
  cases o with
  | none =>
    show k ∉ (PyData.none).shown.cps.toList
    rw [PyData.shown_none]
    have e : (("None" : String) : Str).cps.toList = [78, 111, 110, 101] := by decide
    rw [e]
    intro z
    simp only [List.mem_cons, List.not_mem_nil, or_false] at z; omega
  | some q => exact free_two hk _ _ (shown_int_free' ⟨by omega, .inr (by omega)⟩ _) (shown_int_free' ⟨by omega, .inr (by omega)⟩ _)
theorem ok_of {s : Str} (h : ∀ k : Nat, 1114112 ≤ k → k ∉ s.cps.toList) : PyData.strOk s = true := by
  unfold PyData.strOk
  rw [← Array.all_toList]
  refine List.all_eq_true.mpr fun k hk => decide_eq_true ?_
  exact Nat.lt_of_not_le fun z => h k z hk
theorem ok_ops (dl : List (Option Pr)) : PyData.strOk (PyData.list (dl.map opP)).shown = true := ok_of fun k hk => free_of hk _ fun x hx => by
  obtain ⟨o, _, rfl⟩ := List.mem_map.mp hx
  exact free_op hk o
theorem ok_ints (xs : List Int) : PyData.strOk (PyData.list (xs.map PyData.int)).shown = true := ok_of fun k hk => free_of hk _ fun x hx => by
  obtain ⟨o, _, rfl⟩ := List.mem_map.mp hx
  exact shown_int_free' ⟨by omega, .inr (by omega)⟩ _
theorem ne_str {s : Str} (h : PyData.strOk s = true) : neD (.str s) (.str s) = some (.bl false) := by
  simp [neD, eqB, toP, SeqAt.shaped, PyData.eqv, PyData.canLay0, PyData.depth, h]
section
variable {caps : List Int} {hs : List (List Int)} {m : Nat}
theorem both (c : Cs) (ok : PoolOk caps hs m) (hm : m ≤ 60) (dl : List (Option Pr)) (hl : dl.length ≤ 1000) :
    ∃ b : Bool, Zc.g_is_dealing ⟨c.Pool⟩ [poolD ⟨c.Pool⟩ caps hs, .lst (dl.map opD)] = some (.v (.bl b)) ∧ Zc.g_law_is_dealing [.lst (iL caps), .lst (rowsL hs), .lst (dl.map opD)] = some (.v (.bl b)) := by
  obtain ⟨b, h1, h2⟩ := is_dealing_any ⟨c.Pool⟩ ok (by omega) dl hl
  obtain ⟨b', h3, h4⟩ := Zc.law_is_dealing_spec ok (by omega) dl hl
  have : b = b' := by
    cases b <;> cases b' <;> first | rfl | skip
    · exact absurd (h2.mpr (h4.mp rfl)) (by decide)
    · exact absurd (h4.mpr (h2.mp rfl)) (by decide)
  subst this
  exact ⟨b, h1, h3⟩
theorem low_ok (ok : PoolOk caps hs m) : PoolOk (caps.map fun x => max 0 (x - 1)) hs m := by
  refine ⟨by rw [List.length_map]; exact ok.s1, by rw [List.length_map]; exact ok.s12, fun x hx => ?_, ok.pm, by rw [List.length_map]; exact ok.asc⟩
  obtain ⟨y, hy, rfl⟩ := List.mem_map.mp hx
  have := ok.c0 y hy
  omega
theorem init_ok (c : Zc.Cs) (ok : PoolOk caps hs m) (hm : m ≤ 1000) : apMake c.Pool 2 (Zc.g_Pool_init c) (some [.lst (iL caps), .lst (rowsL hs)]) = some (Zc.poolD c caps hs) := by
  have h12 := ok.s12
  have hp := ok.pm
  have h := Zc.Pool_init_spec c (caps := caps) (hs := hs) ok.s1 (by omega) (fun x hx => (ok.c0 x hx).1) (by omega) fun h hh => Zc.Asc.hold (ok.asc h hh)
  have e := (List.map_congr_left (g := id) fun r hr => Zc.srt_asc (ok.asc r hr)).trans (List.map_id hs)
  rw [show hs.map srt = hs from e] at h
  have mk : apMake c.Pool 2 (Zc.g_Pool_init c) (some [.lst (iL caps), .lst (rowsL hs)]) = (Zc.g_Pool_init c [.lst (iL caps), .lst (rowsL hs)]).map (.ins c.Pool) := rfl
  rw [mk, h]
  rfl
theorem el_rows (hs : List (List Int)) (g : Gm) (i : Nat) (h0 : i ≠ 0) (hg : g[i]? = some none) : lcL (dName i) dYes (dN listD (aCons (dVar i) aNil)) g (rowsL hs) = some (rowsL hs) := by
  have e := lcL_map (tg := dName i) (tt := dYes) (te := dN listD (aCons (dVar i) aNil)) (g := g) id (ds := rowsL hs) fun d hd => by
    unfold rowsL at hd
    obtain ⟨h, _, rfl⟩ := List.mem_map.mp hd
    have hi : i < g.length := by
      refine Nat.lt_of_not_le fun h => ?_
      rw [List.getElem?_eq_none h] at hg
      cases hg
    have hs : okSlot g i = true := by
      unfold okSlot
      rw [decide_eq_true hi, show (i != 0) = true from by simpa using h0]
      rfl
    refine ⟨g.set i (some (.v (.lst (iL h)))), dName_ok hs, rfl, ?_⟩
    have e2 : dVar i (g.set i (some (.v (.lst (iL h))))) = some (.lst (iL h)) := by
      unfold dVar
      rw [List.getElem?_set_self hi]
    show apN _ (apC (dVar i _) (some [])) = _
    rw [e2]
    rfl
  rw [List.map_id] at e
  exact e
end
end Y
end

section
set_option Elab.async false
set_option linter.all false
set_option maxRecDepth 100000
set_option maxHeartbeats 4000000
/-! the asking; the law. -/
namespace Y
open PySem L2 Zk Zc
local macro_rules | `(tactic| walk_at "zs") => `(tactic| simp only [beq_self_eq_true, Bool.or_false, Bool.false_or, Bool.true_or, Bool.or_true, Bool.and_false, Bool.false_and, Bool.true_and, Bool.and_true, Zc.isi_ii, Zc.isi_ib, Zc.isi_tt, Zc.isi_ll, Zc.rowsT_len, Zc.rowsL_len, Zc.is_integer_call, Zc.ix_p0, Zc.ix_p1, dgTup2_a, dgTup3_a, Bool.not_true, Bool.not_false, mul_lz, List.flatten_cons, List.flatten_nil, Int.reduceToNat, add_ll, pow10_12, pow10_18, pow10_39, pow10_41, pow10_59, pow10_60, mkLst_some, mkTup_some, List.length_cons, List.length_nil, Nat.zero_le, Nat.reduceAdd, Nat.reduceLeDiff, call1, callO1, call2, callO2, call3, callO3, call4, callO4, call5, callO5, call6, callO6, ap1_some, ap2_some, apN_some, apC_some, d1_a, d2_a, dN_a, aNil_a, aCons_a, dC_a, dVar_z, dVar_s, tDt_a, apAnd_t, apAnd_f, apOr_t, apOr_f, dAndT_a, dOrT_a, apNot_some, dNotT_a, apAndV_t, apAndV_f, dAndV_a, apOrV_t, apOrV_f, dOrV_a, apIf_t, apIf_f, dIf_a, apCh_t, apCh_f, apChain_some, dChain_a, apSeq_nx, apSeq_rt, apSeq_ct, apSeq_bk, sSeq_a, apIfS_t, apIfS_f, sIf_a, sNext_a, sCont_a, sBreak_a, apRet_some, sRet_a, apRetO_some, sRetO_a, sRetN_a, getO_z, getO_s, apRetV_some, sRetV_a, ltB_z, ltB_s, okSlot_s, apAsg_some, sAsg_a, dName_ok, apG_some, dgCons_a, dgNil_a, apAsgO_some, sAsgO_a, sApp_a, sSetI_a, apFor_some, sFor_a, dItems_a, dRng1_a, dRng2_a, apEn_some, apEn_tup, dEnum_a, sFrz_a, frzs_nil, frzs_cons, frzI_o, frzI_v, frzI_n, frzI_s, frz1_s, frzAll_nil, frzAll_o, frzAll_v, frzAll_n, peekT_a, apPk_int, apPk_bl, apPk_str, apPk_non, peekF_a, dCall_a, toO_o, dCallO_a, dMake_a, Wd_v, Wd_o, dSl_a, apSl_some, oNone_a, oSome_a, apO_some, add_ii, sub_ii, lt_ii, le_ii, gt_ii, ge_ii, eq_ii, ne_ii, neg_i, not_b, bl_b, tru_b, tru_i, tru_l, tru_t, tru_n, len_l, len_t, len_scr, abs_i, int_i, list_l, list_t, tuple_l, tuple_t, min_ii, max_ii, rev_l, items_l, items_t, iL_len, run_a, outW_rt, outW_nx, List.map_cons, List.map_nil, List.replicate, List.append_nil, List.cons_append, List.nil_append, List.set_cons_zero, List.set_cons_succ, Option.map_some])
local macro_rules | `(tactic| walk_at "zd") => `(tactic| first | ((with_reducible show okSlot _ _ = true); simp only [okSlot_s, ltB_z, ltB_s]; done) | omega | assumption | decide | (simp only [List.length_map, List.length_append, List.length_cons, List.length_nil, List.length_range, List.length_set, List.length_reverse, iL_len, Zc.rowsT_len, Zc.rowsL_len] at *; omega))
local macro_rules | `(tactic| walk_at "zz") => `(tactic| simp (disch := walk_at "zd") only [dgTup2_a, dgTup3_a, Bool.not_true, Bool.not_false, mul_lz, List.flatten_cons, List.flatten_nil, Int.reduceToNat, add_ll, pow10_12, pow10_18, pow10_39, pow10_41, pow10_59, pow10_60, mkLst_some, mkTup_some, List.length_cons, List.length_nil, Nat.zero_le, Nat.reduceAdd, Nat.reduceLeDiff, call1, callO1, call2, callO2, call3, callO3, call4, callO4, call5, callO5, call6, callO6, ap1_some, ap2_some, apN_some, apC_some, d1_a, d2_a, dN_a, aNil_a, aCons_a, dC_a, dVar_z, dVar_s, tDt_a, apAnd_t, apAnd_f, apOr_t, apOr_f, dAndT_a, dOrT_a, apNot_some, dNotT_a, apAndV_t, apAndV_f, dAndV_a, apOrV_t, apOrV_f, dOrV_a, apIf_t, apIf_f, dIf_a, apCh_t, apCh_f, apChain_some, dChain_a, apSeq_nx, apSeq_rt, apSeq_ct, apSeq_bk, sSeq_a, apIfS_t, apIfS_f, sIf_a, sNext_a, sCont_a, sBreak_a, apRet_some, sRet_a, apRetO_some, sRetO_a, sRetN_a, getO_z, getO_s, apRetV_some, sRetV_a, ltB_z, ltB_s, okSlot_s, apAsg_some, sAsg_a, dName_ok, apG_some, dgCons_a, dgNil_a, apAsgO_some, sAsgO_a, sApp_a, sSetI_a, apFor_some, sFor_a, dItems_a, dRng1_a, dRng2_a, apEn_some, apEn_tup, dEnum_a, sFrz_a, frzs_nil, frzs_cons, frzI_o, frzI_v, frzI_n, frzI_s, frz1_s, frzAll_nil, frzAll_o, frzAll_v, frzAll_n, peekT_a, apPk_int, apPk_bl, apPk_str, apPk_non, peekF_a, dCall_a, toO_o, dCallO_a, dMake_a, Wd_v, Wd_o, dSl_a, apSl_some, oNone_a, oSome_a, apO_some, add_ii, sub_ii, lt_ii, le_ii, gt_ii, ge_ii, eq_ii, ne_ii, neg_i, not_b, bl_b, tru_b, tru_i, tru_l, tru_t, tru_n, len_l, len_t, len_scr, abs_i, int_i, list_l, list_t, tuple_l, tuple_t, min_ii, max_ii, rev_l, items_l, items_t, iL_len, run_a, outW_rt, outW_nx, List.map_cons, List.map_nil, List.replicate, List.append_nil, List.cons_append, List.nil_append, List.set_cons_zero, List.set_cons_succ, Option.map_some, Int.reduceAdd, Int.reduceMul, Int.reduceSub, Int.reduceNeg, beq_self_eq_true, Bool.or_false, Bool.false_or, Bool.true_or, Bool.or_true, Bool.and_false, Bool.false_and, Bool.true_and, Bool.and_true, Zc.isi_ii, Zc.isi_ib, Zc.isi_tt, Zc.isi_ll, Zc.rowsT_len, Zc.rowsL_len, Zc.is_integer_call, Zc.ix_p0, Zc.ix_p1, apR1_any, Int.toNat_natCast, apR2_some, mod_ii, fdiv_ii, mul_small, apApp_some, ix_at, ix_atT, ix_atI, ix_atIT, ix_atR, ix_atRT, List.length_map, List.length_append, List.length_range, List.length_set, Option.map_none, Option.map_map, decide_true, decide_false, peekO_a, apPkO_i, frz_wo, frz_wv, frz_kk, wipeG_nil, wipeG_cons, orB_s, orB_t, orB_f, andB_s, andB_t, andB_f, orV_s, orV_t, orV_f, andV_s, andV_t, andV_f, apOr_b, apAnd_b, apOrV_b, apAndV_b, apCh_b, Zc.cut_from, Zc.cut_to, in_l, in_t, in_pr, eq_op_op, eq_op_pr, eq_pr_op, eq_pr_pr, ne_op_op, ne_op_pr, ne_pr_op, ne_pr_pr, isnt_op, is_op, pr_0, pr_1, st_0, st_1, inP_pr, ninP_pr, nin_l, isi_prt, len_pr, op_some, prD_eq, ix_lit2, ix_lit3, ix_lit4, ix_lit5, ix_lit6, ix_lit7, ix_lit8, ix_lit9, ix_lit10, ix_lit11, ix_lit12, ix_lit13, ix_lit14, ix_lit15, setI_i, setI_p, setI_o, setI_n, snoc_i, snoc_r, snoc_p, snoc_n, snoc_o, snoc_pp, snoc_s, eq_ol, ne_ol, eq_pl, ne_pl, eq_sl, ne_sl, eq_il, ne_il, eq_rl, ne_rl, eq_il1, isi_bb, eq_bb, ne_bb, Zg.peekS_a])
local macro_rules | `(tactic| walk_at "zf") => `(tactic| first | (walk_at "zz"; done) | (walk_at "zz"; rfl) | rfl)
local macro_rules | `(tactic| walk_at "lc") => `(tactic| ((case hf => rfl); (case hi => first | (walk_at "zz"; done) | (walk_at "zz"; rfl) | rfl); (case hl => walk_at "zd"); (case h => (intro a ha; refine ⟨_, dName_ok rfl, ?_, fun hT => ?_⟩ <;> walk_at "zz" <;> rfl))))
local macro_rules | `(tactic| walk_at "lm") => `(tactic| ((case hf => rfl); (case hi => first | (walk_at "zz"; done) | (walk_at "zz"; rfl) | rfl); (case hl => walk_at "zd"); (case h => (intro a ha; refine ⟨_, dName_ok rfl, ?_⟩; walk_at "zz"; rfl))))
section
variable {caps : List Int} {hs : List (List Int)} {m : Nat}
theorem asks_lot_spec (c : Cs) (ok : PoolOk caps hs m) (hm : m ≤ 60) {lot : List Int} (hl : lot.length ≤ 900) (hb : ∀ x ∈ lot, Sm x) {e : Int} :
    g_law_asks_lot c [poolD ⟨c.Pool⟩ caps hs, .int (hs.length : Nat), .lst (iL lot), .int e] = some (.v (.bl true)) := by
  unfold g_law_asks_lot t_law_asks_lot
  walk_at "zz"
  rw [law_lot_spec _ _ (by omega), e_lot]
  walk_at "zz"
  rw [is_lot_spec (Zc.Cs.mk c.Pool)]
  walk_at "zz"
  rw [says_spec]
  walk_at "zz"
  rw [repr_ints (by omega) hb]
  walk_at "zz"
  rw [ne_str (ok_ints _)]
  walk_at "zz"
  rw [is_lot_spec (Zc.Cs.mk c.Pool), law_lot_spec _ _ (by rw [List.length_append]; simp only [List.length_cons, List.length_nil]; omega)]
  walk_at "zz"
  rw [says_spec]
  walk_at "zz"
  rw [is_lot_spec (Zc.Cs.mk c.Pool)]
  walk_at "zz"
  rw [says_spec]
  rfl
theorem asks_dealing_spec (c : Cs) (ok : PoolOk caps hs m) (hm : m ≤ 60) {dl : List (Option Pr)} (hl : dl.length ≤ 900) (he : ∀ o ∈ dl, Ent o) {ds : List Int} (hb : Below ds [6, 4, 840, 36000, 2, 8, 840, 36000]) :
    g_law_asks_dealing c [poolD ⟨c.Pool⟩ caps hs, .lst (iL caps), .lst (rowsL hs), .lst (dl.map opD), .lst (iL ds)] = some (.v (.bl true)) := by
  have hpm := ok.pm
  have h12 := ok.s12
  unfold g_law_asks_dealing t_law_asks_dealing
  obtain ⟨b1, p1, l1⟩ := both c ok hm dl (by omega)
  obtain ⟨b2, p2, l2⟩ := both c (low_ok ok) hm dl (by omega)
  rw [e_ldeal, e_deal, e_init, e_is]
  walk_at "zz"
  rw [l1]
  walk_at "zz"
  rw [p1]
  walk_at "zz"
  rw [says_spec]
  walk_at "zz"
  rw [repr_ops (by omega) he]
  walk_at "zz"
  rw [ne_str (ok_ops _)]
  walk_at "zz"
  rewrite [dLc_map D.int (xs := caps) (F := fun x => D.int (max 0 (x - 1)))]
  · rw [show (caps.map fun x => D.int (max 0 (x - 1))) = iL (caps.map fun x => max 0 (x - 1)) from by unfold iL; rw [List.map_map]; rfl]
    walk_at "zz"
    have ok2 := low_ok ok
    generalize caps.map (fun x => max 0 (x - 1)) = caps2 at ok2 p2 l2 ⊢
    rw [dLc_eq (ds := rowsL hs) rfl (by walk_at "zs") (by rw [rowsL_len]; omega) (el_rows hs _ 10 (by decide) rfl)]
    walk_at "zz"
    rw [init_ok ⟨c.Pool⟩ ok2 (by omega)]
    walk_at "zz"
    rw [p2]
    walk_at "zz"
    rw [l2]
    walk_at "zz"
    rw [says_spec]
    walk_at "zz"
    by_cases hz : dl.length = 0
    · rw [decide_eq_false (by omega)]
      obtain ⟨b3, p3, l3⟩ := both c ok hm (dl ++ [none]) (by rw [List.length_append]; simp only [List.length_cons, List.length_nil]; omega)
      walk_at "zz"
      rw [p3]
      walk_at "zz"
      rw [l3]
      walk_at "zz"
      rw [says_spec]
      walk_at "zz"
      rw [p1]
      walk_at "zz"
      rw [says_spec]
      walk_at "zz"
      rw [is_pool_spec (Zc.Cs.mk c.Pool) (by omega) (by omega) (fun h hh => by have := (ok.asc h hh).len; omega)]
      walk_at "zz"
    · rw [decide_eq_true (by omega)]
      obtain ⟨x6, i6, b6⟩ := hb.ix (m := 6) (k := 6) rfl rfl
      obtain ⟨x7, i7, b7⟩ := hb.ix (m := 7) (k := 7) rfl rfl
      obtain ⟨o, eo, _⟩ := entry_spec ok (dl := dl) (by omega) he b7
      walk_at "zz"
      rw [i7]
      walk_at "zz"
      rw [eo, i6]
      walk_at "zz"
      have r0 := Int.emod_nonneg x6 (b := (dl.length : Nat)) (by omega)
      have r1 := Int.emod_lt_of_pos x6 (b := (dl.length : Nat)) (by omega)
      rw [setI_o r0 r1]
      obtain ⟨b3, p3, l3⟩ := both c ok hm (dl.set (x6 % (dl.length : Nat)).toNat o) (by rw [List.length_set]; omega)
      walk_at "zz"
      rw [p3]
      walk_at "zz"
      rw [l3]
      walk_at "zz"
      rw [says_spec]
      walk_at "zz"
      rw [p1]
      walk_at "zz"
      rw [says_spec]
      walk_at "zz"
      rw [is_pool_spec (Zc.Cs.mk c.Pool) (by omega) (by omega) (fun h hh => by have := (ok.asc h hh).len; omega)]
      walk_at "zz"
  · rfl
  · rfl
  · omega
  · intro x hx
    refine ⟨_, dName_ok rfl, ?_⟩
    walk_at "zz"
    rw [show (if x - 1 > 0 then x - 1 else 0) = max 0 (x - 1) from by split <;> omega]
end
theorem cell_spec (ns : List Int) (k : Nat) (hl : ns.length ≤ 63) (hk : k ≤ 63) : ∃ j : Int, Zc.g_law_cell [.scr ns, .int (k : Int)] = some (.v (.int j)) := by
  unfold Zc.g_law_cell Zc.t_law_cell
  walk_at "zs"
  by_cases h : k < ns.length
  · rw [decide_eq_true (by omega)]
    walk_at "zs"
    rw [ix_scr (List.getElem?_eq_getElem h)]
    walk_at "zs"
    exact ⟨_, rfl⟩
  · rw [decide_eq_false (by omega)]
    walk_at "zs"
    exact ⟨_, rfl⟩
theorem main : ∀ (c : Cs) (ns : List Int), ns.length ≤ 63 → g_law c [.scr ns] = some (.v (.bl true)) := by
  intro c ns hn
  unfold g_law t_law
  rw [e_draws, e_cell, e_wide, e_pool, e_init, e_is, e_wbits]
  obtain ⟨c0, hc0⟩ := cell_spec ns 0 hn (by decide)
  obtain ⟨c1, hc1⟩ := cell_spec ns 1 hn (by decide)
  obtain ⟨c2, hc2⟩ := cell_spec ns 2 hn (by decide)
  obtain ⟨c3, hc3⟩ := cell_spec ns 3 hn (by decide)
  replace hc0 : Zc.g_law_cell [.scr ns, .int 0] = some (.v (.int c0)) := hc0
  replace hc1 : Zc.g_law_cell [.scr ns, .int 1] = some (.v (.int c1)) := hc1
  replace hc2 : Zc.g_law_cell [.scr ns, .int 2] = some (.v (.int c2)) := hc2
  replace hc3 : Zc.g_law_cell [.scr ns, .int 3] = some (.v (.int c3)) := hc3
  walk_at "zs"
  rw [hc1]
  walk_at "zs"
  obtain ⟨w, e, ds, rfl, hb⟩ := Zc.draws_spec c1 [6, 4, 840, 36000, 2, 8, 840, 36000] (by intro s hs; simp only [List.mem_cons, List.not_mem_nil, or_false] at hs; omega) (show (8 : Nat) ≤ 1000 by decide)
  rw [show ([.int 6, .int 4, .int 840, .int 36000, .int 2, .int 8, .int 840, .int 36000] : List D) = iL [6, 4, 840, 36000, 2, 8, 840, 36000] from rfl, e]
  walk_at "zs"
  obtain ⟨d0, i0, b0⟩ := hb.ix (m := 0) (k := 0) rfl rfl
  rw [i0]
  walk_at "zs"
  refine seq_then (C := fun o => outW o = _) (fun g => ∃ (caps : List Int) (hs : List (List Int)), g = [some (.v (.scr ns)), some (.v (.lst (iL ds))), some (.v (.lst (iL caps))), some (.v (.lst (rowsL hs))), none, none, none, none, none, none, none, none] ∧ PoolOk caps hs 24) ?_ ?_
  · have up : ∀ {caps : List Int} {hs : List (List Int)} {m : Nat}, m ≤ 24 → PoolOk caps hs m → PoolOk caps hs 24 := fun h ok => ⟨ok.s1, ok.s12, ok.c0, Nat.le_trans ok.pm h, ok.asc⟩
    cases (d0 == 1)
    · walk_at "zs"
      rw [hc0]
      walk_at "zs"
      obtain ⟨w, e, caps, hs, rfl, ok⟩ := Zc.pool_spec c0 7 (by decide)
      replace e : Zc.g_law_pool [.int c0, .int 7] = some (.v (.tup [.lst (iL caps), .lst (rowsL hs)])) := e
      rw [e]
      walk_at "zs"
      exact ⟨_, rfl, caps, hs, rfl, up (by decide) ok⟩
    · walk_at "zs"
      rw [hc0]
      walk_at "zs"
      obtain ⟨w, e, caps, hs, rfl, ok⟩ := Zc.wide_pool_spec c0 24 (by decide)
      replace e : Zc.g_law_wide_pool [.int c0, .int 24] = some (.v (.tup [.lst (iL caps), .lst (rowsL hs)])) := e
      rw [e]
      walk_at "zs"
      exact ⟨_, rfl, caps, hs, rfl, up (by decide) ok⟩
  · rintro g ⟨caps, hs, rfl, ok⟩
    have hpm := ok.pm
    have h12 := ok.s12
    have h1 := ok.s1
    walk_at "zs"
    rw [dLc_eq (ds := rowsL hs) rfl (by walk_at "zs") (by rw [rowsL_len]; omega) (el_rows hs _ 11 (by decide) rfl)]
    walk_at "zs"
    rw [init_ok ⟨c.Pool⟩ ok (by decide)]
    walk_at "zs"
    rw [hc2]
    walk_at "zs"
    obtain ⟨w, e, mo, rfl, hmo⟩ := Zc.draws_spec c2 szM (by intro s hs; unfold szM at hs; simp only [List.mem_append, List.mem_replicate] at hs; omega) (show (48 : Nat) ≤ 1000 by decide)
    have sz : ap2 addD (mulD (D.lst [D.int 300]) (D.int 24)) (mulD (D.lst [D.int 36000]) (D.int 24)) = some (.lst (iL szM)) := rfl
    rw [sz]
    walk_at "zs"
    rw [e]
    walk_at "zs"
    obtain ⟨dl, ed, hdl, he⟩ := drawn_spec ok (by decide) hb hmo
    rw [ed]
    walk_at "zs"
    rw [asks_dealing_spec c ok (by decide) (by omega) he hb]
    walk_at "zs"
    rw [hc3]
    walk_at "zs"
    obtain ⟨w, e, es, rfl, heb⟩ := Zc.draws_spec c3 [16777216, 10, 840, 840, 840] (by intro s hs; simp only [List.mem_cons, List.not_mem_nil, or_false] at hs; omega) (show (5 : Nat) ≤ 1000 by decide)
    rw [show ([.int 16777216, .int 10, .int 840, .int 840, .int 840] : List D) = iL [16777216, 10, 840, 840, 840] from rfl, e]
    walk_at "zs"
    obtain ⟨e0, j0, t0⟩ := heb.ix (m := 0) (k := 0) rfl rfl
    obtain ⟨e1, j1, t1⟩ := heb.ix (m := 1) (k := 1) rfl rfl
    obtain ⟨e2, j2, t2⟩ := heb.ix (m := 2) (k := 2) rfl rfl
    obtain ⟨e3, j3, t3⟩ := heb.ix (m := 3) (k := 3) rfl rfl
    obtain ⟨e4, j4, t4⟩ := heb.ix (m := 4) (k := 4) rfl rfl
    rw [j0]
    walk_at "zs"
    obtain ⟨w, e, lot, rfl, hlot⟩ := Zc.wide_bits_spec e0 hs.length (by omega)
    rw [e]
    walk_at "zs"
    have hll := hlot.len
    have hsm : ∀ x ∈ lot, Sm x := fun x hx => by have := hlot.2 x hx; unfold Sm; omega
    rw [j4]
    walk_at "zs"
    rw [mod_ii (by omega)]
    walk_at "zs"
    rw [asks_lot_spec c ok (by decide) (by omega) hsm]
    walk_at "zs"
    rw [j1, j2, j3]
    walk_at "zs"
    obtain ⟨xs, ex, hxl, hxs⟩ := spoilt_spec (n := hs.length) (by omega) (by omega) hsm t1 t2.1 t3.1
    rw [ex]
    walk_at "zs"
    rw [j4]
    walk_at "zs"
    rw [mod_ii (by omega)]
    walk_at "zs"
    rw [asks_lot_spec c ok (by decide) (by omega) hxs]
    walk_at "zs"
    rw [Zc.is_pool_spec (Zc.Cs.mk c.Pool) (by omega) (by omega) (fun h hh => by have := (ok.asc h hh).len; omega)]
    walk_at "zs"
end Y
end

section
set_option Elab.async false
set_option linter.all false
set_option maxRecDepth 100000
set_option maxHeartbeats 4000000
namespace Y
open PySem L2 Zk
def spLaw (K : PySem.W.Frag) : Sp := fun vs H Q _ => ∃ (a : Addr) (ns : List Int), vs = [.ref a] ∧ SqL K H a (ns.map V.int) ∧ ns.length ≤ 63 ∧ ∀ H', Q (.bl true) H'
theorem law_sp {P : Program} {w : World} {K : PySem.W.Frag} {mg : Str → Option Value} {base : Heap} (main : ∀ (c : Cs) (ns : List Int), ns.length ≤ 63 → g_law c [.scr ns] = some (.v (.bl true))) (T : Txt K mg) : Zg.FnG P w K mg base 6 T.f_law T.fd_law ["_law_script"] (spLaw K) := by
  refine (ok_law (P := P) (w := w) (base := base) T).imp fun vs H Q E h => ?_
  obtain ⟨a, ns, rfl, hS, hl, q⟩ := h
  refine ⟨fun _ => False, [.scr ns], .v (.bl true), rfl, fun _ z => z.elim, .cons ?_ .nil, main _ ns hl, fun v H' e r => ?_⟩
  · rcases hS with h | h
    · exact .scr (fun z => z) h
    · exact .kscr fun G => .inr h
  · cases r; exact q H'
theorem all_mk {l : PySem.W.OpenLaw} {w : World} {K : PySem.W.Frag} {h : Heap} {mg : Str → Option Value} {fa C_Pool f_are_different f_are_ascending f_Pool_init f_ordered_holders f_pair_room f_holds_pair f_is_dealing f_is_lot f_law_cell f_law_draws f_law_bits f_law_pairs f_law_pool f_law_wide_bits f_law_wide_pool f_law_is_integer f_law_is_pool f_law_is_dealing f_law_says f_law_filled f_law_entry f_law_is_lot f_law_spoilt f_law_drawn_dealing f_law_asks_dealing f_law_asks_lot f_law : Addr} (main : ∀ (c : Cs) (ns : List Int), ns.length ≤ 63 → g_law c [.scr ns] = some (.v (.bl true))) (X : K.In h) (G : h.Ns mainGlobals mg) (hfa : mg "law" = some (.ref fa))
    {oc_are_different kV_are_different dc_are_different pm_are_different cd_are_different ct_are_different : Value} {od_are_different an_are_different : Option Addr} {sl_are_different : Array (Option Value)}
    {oc_are_ascending kV_are_ascending dc_are_ascending pm_are_ascending cd_are_ascending ct_are_ascending : Value} {od_are_ascending an_are_ascending : Option Addr} {sl_are_ascending : Array (Option Value)}
    {oc_Pool_init kV_Pool_init dc_Pool_init pm_Pool_init cd_Pool_init ct_Pool_init : Value} {od_Pool_init an_Pool_init : Option Addr} {sl_Pool_init : Array (Option Value)}
    {oc_ordered_holders kV_ordered_holders dc_ordered_holders pm_ordered_holders cd_ordered_holders ct_ordered_holders : Value} {od_ordered_holders an_ordered_holders : Option Addr} {sl_ordered_holders : Array (Option Value)}
    {oc_pair_room kV_pair_room dc_pair_room pm_pair_room cd_pair_room ct_pair_room : Value} {od_pair_room an_pair_room : Option Addr} {sl_pair_room : Array (Option Value)}
    {oc_holds_pair kV_holds_pair dc_holds_pair pm_holds_pair cd_holds_pair ct_holds_pair : Value} {od_holds_pair an_holds_pair : Option Addr} {sl_holds_pair : Array (Option Value)}
    {oc_is_dealing kV_is_dealing dc_is_dealing pm_is_dealing cd_is_dealing ct_is_dealing : Value} {od_is_dealing an_is_dealing : Option Addr} {sl_is_dealing : Array (Option Value)}
    {oc_is_lot kV_is_lot dc_is_lot pm_is_lot cd_is_lot ct_is_lot : Value} {od_is_lot an_is_lot : Option Addr} {sl_is_lot : Array (Option Value)}
    {oc_law_cell kV_law_cell dc_law_cell pm_law_cell cd_law_cell ct_law_cell : Value} {od_law_cell an_law_cell : Option Addr} {sl_law_cell : Array (Option Value)}
    {oc_law_draws kV_law_draws dc_law_draws pm_law_draws cd_law_draws ct_law_draws : Value} {od_law_draws an_law_draws : Option Addr} {sl_law_draws : Array (Option Value)}
    {oc_law_bits kV_law_bits dc_law_bits pm_law_bits cd_law_bits ct_law_bits : Value} {od_law_bits an_law_bits : Option Addr} {sl_law_bits : Array (Option Value)}
    {oc_law_pairs kV_law_pairs dc_law_pairs pm_law_pairs cd_law_pairs ct_law_pairs : Value} {od_law_pairs an_law_pairs : Option Addr} {sl_law_pairs : Array (Option Value)}
    {oc_law_pool kV_law_pool dc_law_pool pm_law_pool cd_law_pool ct_law_pool : Value} {od_law_pool an_law_pool : Option Addr} {sl_law_pool : Array (Option Value)}
    {oc_law_wide_bits kV_law_wide_bits dc_law_wide_bits pm_law_wide_bits cd_law_wide_bits ct_law_wide_bits : Value} {od_law_wide_bits an_law_wide_bits : Option Addr} {sl_law_wide_bits : Array (Option Value)}
    {oc_law_wide_pool kV_law_wide_pool dc_law_wide_pool pm_law_wide_pool cd_law_wide_pool ct_law_wide_pool : Value} {od_law_wide_pool an_law_wide_pool : Option Addr} {sl_law_wide_pool : Array (Option Value)}
    {oc_law_is_integer kV_law_is_integer dc_law_is_integer pm_law_is_integer cd_law_is_integer ct_law_is_integer : Value} {od_law_is_integer an_law_is_integer : Option Addr} {sl_law_is_integer : Array (Option Value)}
    {oc_law_is_pool kV_law_is_pool dc_law_is_pool pm_law_is_pool cd_law_is_pool ct_law_is_pool : Value} {od_law_is_pool an_law_is_pool : Option Addr} {sl_law_is_pool : Array (Option Value)}
    {oc_law_is_dealing kV_law_is_dealing dc_law_is_dealing pm_law_is_dealing cd_law_is_dealing ct_law_is_dealing : Value} {od_law_is_dealing an_law_is_dealing : Option Addr} {sl_law_is_dealing : Array (Option Value)}
    {oc_law_says kV_law_says dc_law_says pm_law_says cd_law_says ct_law_says : Value} {od_law_says an_law_says : Option Addr} {sl_law_says : Array (Option Value)}
    {oc_law_filled kV_law_filled dc_law_filled pm_law_filled cd_law_filled ct_law_filled : Value} {od_law_filled an_law_filled : Option Addr} {sl_law_filled : Array (Option Value)}
    {oc_law_entry kV_law_entry dc_law_entry pm_law_entry cd_law_entry ct_law_entry : Value} {od_law_entry an_law_entry : Option Addr} {sl_law_entry : Array (Option Value)}
    {oc_law_is_lot kV_law_is_lot dc_law_is_lot pm_law_is_lot cd_law_is_lot ct_law_is_lot : Value} {od_law_is_lot an_law_is_lot : Option Addr} {sl_law_is_lot : Array (Option Value)}
    {oc_law_spoilt kV_law_spoilt dc_law_spoilt pm_law_spoilt cd_law_spoilt ct_law_spoilt : Value} {od_law_spoilt an_law_spoilt : Option Addr} {sl_law_spoilt : Array (Option Value)}
    {oc_law_drawn_dealing kV_law_drawn_dealing dc_law_drawn_dealing pm_law_drawn_dealing cd_law_drawn_dealing ct_law_drawn_dealing : Value} {od_law_drawn_dealing an_law_drawn_dealing : Option Addr} {sl_law_drawn_dealing : Array (Option Value)}
    {oc_law_asks_dealing kV_law_asks_dealing dc_law_asks_dealing pm_law_asks_dealing cd_law_asks_dealing ct_law_asks_dealing : Value} {od_law_asks_dealing an_law_asks_dealing : Option Addr} {sl_law_asks_dealing : Array (Option Value)}
    {oc_law_asks_lot kV_law_asks_lot dc_law_asks_lot pm_law_asks_lot cd_law_asks_lot ct_law_asks_lot : Value} {od_law_asks_lot an_law_asks_lot : Option Addr} {sl_law_asks_lot : Array (Option Value)}
    {oc_law kV_law dc_law pm_law cd_law ct_law : Value} {od_law an_law : Option Addr} {sl_law : Array (Option Value)}
    (z_abs : PySem.W.nsIn K mainGlobals "abs" = some none)
    (z_all : PySem.W.nsIn K mainGlobals "all" = some none)
    (z_bool : PySem.W.nsIn K mainGlobals "bool" = some none)
    (z_enumerate : PySem.W.nsIn K mainGlobals "enumerate" = some none)
    (z_int : PySem.W.nsIn K mainGlobals "int" = some none)
    (z_isinstance : PySem.W.nsIn K mainGlobals "isinstance" = some none)
    (z_len : PySem.W.nsIn K mainGlobals "len" = some none)
    (z_list : PySem.W.nsIn K mainGlobals "list" = some none)
    (z_max : PySem.W.nsIn K mainGlobals "max" = some none)
    (z_min : PySem.W.nsIn K mainGlobals "min" = some none)
    (z_range : PySem.W.nsIn K mainGlobals "range" = some none)
    (z_repr : PySem.W.nsIn K mainGlobals "repr" = some none)
    (z_set : PySem.W.nsIn K mainGlobals "set" = some none)
    (z_sorted : PySem.W.nsIn K mainGlobals "sorted" = some none)
    (z_tuple : PySem.W.nsIn K mainGlobals "tuple" = some none)
    (aC_Pool : PySem.W.nsIn K mainGlobals "Pool" = some (some (.ref C_Pool)))
    (pg_Pool : PySem.W.plainGet K C_Pool Str.empty = true)
    (hd_Pool : PySem.W.hasDictIn K C_Pool = true)
    (po_Pool : PySem.W.plainOver K C_Pool = true)
    (sa_Pool : PySem.W.findIn K (.ref C_Pool) "__setattr__" = some (some (.builtin "object.__setattr__")))
    (mk_Pool : PySem.W.makesIn K C_Pool = true)
    (kc_Pool : PySem.W.keepIn K (.ref C_Pool) = true)
    (n_Pool_caps : PySem.W.findIn K (.ref C_Pool) "caps" = some none)
    (n_Pool_holders : PySem.W.findIn K (.ref C_Pool) "holders" = some none)
    (n_Pool_seats : PySem.W.findIn K (.ref C_Pool) "seats" = some none)
    (n_Pool_pieces : PySem.W.findIn K (.ref C_Pool) "pieces" = some none)
    (a_are_different : PySem.W.nsIn K mainGlobals "are_different" = some (some (.ref f_are_different)))
    (l_are_different : K.lookup f_are_different = some ⟨oc_are_different, od_are_different, .func (PySem.W.fnOf "are_different" "are_different" (defArgs s_are_different) (defBody s_are_different) (defScope s_are_different) .none kV_are_different dc_are_different pm_are_different an_are_different cd_are_different ct_are_different), sl_are_different⟩)
    (c_are_different : PySem.W.codeIn K cd_are_different "are_different" = true)
    (k_are_different : PySem.W.keepIn K (.ref f_are_different) = true)
    (a_are_ascending : PySem.W.nsIn K mainGlobals "are_ascending" = some (some (.ref f_are_ascending)))
    (l_are_ascending : K.lookup f_are_ascending = some ⟨oc_are_ascending, od_are_ascending, .func (PySem.W.fnOf "are_ascending" "are_ascending" (defArgs s_are_ascending) (defBody s_are_ascending) (defScope s_are_ascending) .none kV_are_ascending dc_are_ascending pm_are_ascending an_are_ascending cd_are_ascending ct_are_ascending), sl_are_ascending⟩)
    (c_are_ascending : PySem.W.codeIn K cd_are_ascending "are_ascending" = true)
    (k_are_ascending : PySem.W.keepIn K (.ref f_are_ascending) = true)
    (a_Pool_init : PySem.W.findIn K (.ref C_Pool) "__init__" = some (some (.ref f_Pool_init)))
    (i_Pool_init : PySem.W.isFn K (.ref f_Pool_init) = true)
    (l_Pool_init : K.lookup f_Pool_init = some ⟨oc_Pool_init, od_Pool_init, .func (PySem.W.fnOf "__init__" "Pool.__init__" (defArgs s_Pool_init) (defBody s_Pool_init) (defScope s_Pool_init) .none kV_Pool_init dc_Pool_init pm_Pool_init an_Pool_init cd_Pool_init ct_Pool_init), sl_Pool_init⟩)
    (c_Pool_init : PySem.W.codeIn K cd_Pool_init "Pool.__init__" = true)
    (k_Pool_init : PySem.W.keepIn K (.ref f_Pool_init) = true)
    (a_ordered_holders : PySem.W.nsIn K mainGlobals "ordered_holders" = some (some (.ref f_ordered_holders)))
    (l_ordered_holders : K.lookup f_ordered_holders = some ⟨oc_ordered_holders, od_ordered_holders, .func (PySem.W.fnOf "ordered_holders" "ordered_holders" (defArgs s_ordered_holders) (defBody s_ordered_holders) (defScope s_ordered_holders) .none kV_ordered_holders dc_ordered_holders pm_ordered_holders an_ordered_holders cd_ordered_holders ct_ordered_holders), sl_ordered_holders⟩)
    (c_ordered_holders : PySem.W.codeIn K cd_ordered_holders "ordered_holders" = true)
    (k_ordered_holders : PySem.W.keepIn K (.ref f_ordered_holders) = true)
    (a_pair_room : PySem.W.nsIn K mainGlobals "pair_room" = some (some (.ref f_pair_room)))
    (l_pair_room : K.lookup f_pair_room = some ⟨oc_pair_room, od_pair_room, .func (PySem.W.fnOf "pair_room" "pair_room" (defArgs s_pair_room) (defBody s_pair_room) (defScope s_pair_room) .none kV_pair_room dc_pair_room pm_pair_room an_pair_room cd_pair_room ct_pair_room), sl_pair_room⟩)
    (c_pair_room : PySem.W.codeIn K cd_pair_room "pair_room" = true)
    (k_pair_room : PySem.W.keepIn K (.ref f_pair_room) = true)
    (a_holds_pair : PySem.W.nsIn K mainGlobals "holds_pair" = some (some (.ref f_holds_pair)))
    (l_holds_pair : K.lookup f_holds_pair = some ⟨oc_holds_pair, od_holds_pair, .func (PySem.W.fnOf "holds_pair" "holds_pair" (defArgs s_holds_pair) (defBody s_holds_pair) (defScope s_holds_pair) .none kV_holds_pair dc_holds_pair pm_holds_pair an_holds_pair cd_holds_pair ct_holds_pair), sl_holds_pair⟩)
    (c_holds_pair : PySem.W.codeIn K cd_holds_pair "holds_pair" = true)
    (k_holds_pair : PySem.W.keepIn K (.ref f_holds_pair) = true)
    (a_is_dealing : PySem.W.nsIn K mainGlobals "is_dealing" = some (some (.ref f_is_dealing)))
    (l_is_dealing : K.lookup f_is_dealing = some ⟨oc_is_dealing, od_is_dealing, .func (PySem.W.fnOf "is_dealing" "is_dealing" (defArgs s_is_dealing) (defBody s_is_dealing) (defScope s_is_dealing) .none kV_is_dealing dc_is_dealing pm_is_dealing an_is_dealing cd_is_dealing ct_is_dealing), sl_is_dealing⟩)
    (c_is_dealing : PySem.W.codeIn K cd_is_dealing "is_dealing" = true)
    (k_is_dealing : PySem.W.keepIn K (.ref f_is_dealing) = true)
    (a_is_lot : PySem.W.nsIn K mainGlobals "is_lot" = some (some (.ref f_is_lot)))
    (l_is_lot : K.lookup f_is_lot = some ⟨oc_is_lot, od_is_lot, .func (PySem.W.fnOf "is_lot" "is_lot" (defArgs s_is_lot) (defBody s_is_lot) (defScope s_is_lot) .none kV_is_lot dc_is_lot pm_is_lot an_is_lot cd_is_lot ct_is_lot), sl_is_lot⟩)
    (c_is_lot : PySem.W.codeIn K cd_is_lot "is_lot" = true)
    (k_is_lot : PySem.W.keepIn K (.ref f_is_lot) = true)
    (a_law_cell : PySem.W.nsIn K mainGlobals "_law_cell" = some (some (.ref f_law_cell)))
    (l_law_cell : K.lookup f_law_cell = some ⟨oc_law_cell, od_law_cell, .func (PySem.W.fnOf "_law_cell" "_law_cell" (defArgs s_law_cell) (defBody s_law_cell) (defScope s_law_cell) .none kV_law_cell dc_law_cell pm_law_cell an_law_cell cd_law_cell ct_law_cell), sl_law_cell⟩)
    (c_law_cell : PySem.W.codeIn K cd_law_cell "_law_cell" = true)
    (k_law_cell : PySem.W.keepIn K (.ref f_law_cell) = true)
    (a_law_draws : PySem.W.nsIn K mainGlobals "_law_draws" = some (some (.ref f_law_draws)))
    (l_law_draws : K.lookup f_law_draws = some ⟨oc_law_draws, od_law_draws, .func (PySem.W.fnOf "_law_draws" "_law_draws" (defArgs s_law_draws) (defBody s_law_draws) (defScope s_law_draws) .none kV_law_draws dc_law_draws pm_law_draws an_law_draws cd_law_draws ct_law_draws), sl_law_draws⟩)
    (c_law_draws : PySem.W.codeIn K cd_law_draws "_law_draws" = true)
    (k_law_draws : PySem.W.keepIn K (.ref f_law_draws) = true)
    (a_law_bits : PySem.W.nsIn K mainGlobals "_law_bits" = some (some (.ref f_law_bits)))
    (l_law_bits : K.lookup f_law_bits = some ⟨oc_law_bits, od_law_bits, .func (PySem.W.fnOf "_law_bits" "_law_bits" (defArgs s_law_bits) (defBody s_law_bits) (defScope s_law_bits) .none kV_law_bits dc_law_bits pm_law_bits an_law_bits cd_law_bits ct_law_bits), sl_law_bits⟩)
    (c_law_bits : PySem.W.codeIn K cd_law_bits "_law_bits" = true)
    (k_law_bits : PySem.W.keepIn K (.ref f_law_bits) = true)
    (a_law_pairs : PySem.W.nsIn K mainGlobals "_law_pairs" = some (some (.ref f_law_pairs)))
    (l_law_pairs : K.lookup f_law_pairs = some ⟨oc_law_pairs, od_law_pairs, .func (PySem.W.fnOf "_law_pairs" "_law_pairs" (defArgs s_law_pairs) (defBody s_law_pairs) (defScope s_law_pairs) .none kV_law_pairs dc_law_pairs pm_law_pairs an_law_pairs cd_law_pairs ct_law_pairs), sl_law_pairs⟩)
    (c_law_pairs : PySem.W.codeIn K cd_law_pairs "_law_pairs" = true)
    (k_law_pairs : PySem.W.keepIn K (.ref f_law_pairs) = true)
    (a_law_pool : PySem.W.nsIn K mainGlobals "_law_pool" = some (some (.ref f_law_pool)))
    (l_law_pool : K.lookup f_law_pool = some ⟨oc_law_pool, od_law_pool, .func (PySem.W.fnOf "_law_pool" "_law_pool" (defArgs s_law_pool) (defBody s_law_pool) (defScope s_law_pool) .none kV_law_pool dc_law_pool pm_law_pool an_law_pool cd_law_pool ct_law_pool), sl_law_pool⟩)
    (c_law_pool : PySem.W.codeIn K cd_law_pool "_law_pool" = true)
    (k_law_pool : PySem.W.keepIn K (.ref f_law_pool) = true)
    (a_law_wide_bits : PySem.W.nsIn K mainGlobals "_law_wide_bits" = some (some (.ref f_law_wide_bits)))
    (l_law_wide_bits : K.lookup f_law_wide_bits = some ⟨oc_law_wide_bits, od_law_wide_bits, .func (PySem.W.fnOf "_law_wide_bits" "_law_wide_bits" (defArgs s_law_wide_bits) (defBody s_law_wide_bits) (defScope s_law_wide_bits) .none kV_law_wide_bits dc_law_wide_bits pm_law_wide_bits an_law_wide_bits cd_law_wide_bits ct_law_wide_bits), sl_law_wide_bits⟩)
    (c_law_wide_bits : PySem.W.codeIn K cd_law_wide_bits "_law_wide_bits" = true)
    (k_law_wide_bits : PySem.W.keepIn K (.ref f_law_wide_bits) = true)
    (a_law_wide_pool : PySem.W.nsIn K mainGlobals "_law_wide_pool" = some (some (.ref f_law_wide_pool)))
    (l_law_wide_pool : K.lookup f_law_wide_pool = some ⟨oc_law_wide_pool, od_law_wide_pool, .func (PySem.W.fnOf "_law_wide_pool" "_law_wide_pool" (defArgs s_law_wide_pool) (defBody s_law_wide_pool) (defScope s_law_wide_pool) .none kV_law_wide_pool dc_law_wide_pool pm_law_wide_pool an_law_wide_pool cd_law_wide_pool ct_law_wide_pool), sl_law_wide_pool⟩)
    (c_law_wide_pool : PySem.W.codeIn K cd_law_wide_pool "_law_wide_pool" = true)
    (k_law_wide_pool : PySem.W.keepIn K (.ref f_law_wide_pool) = true)
    (a_law_is_integer : PySem.W.nsIn K mainGlobals "_law_is_integer" = some (some (.ref f_law_is_integer)))
    (l_law_is_integer : K.lookup f_law_is_integer = some ⟨oc_law_is_integer, od_law_is_integer, .func (PySem.W.fnOf "_law_is_integer" "_law_is_integer" (defArgs s_law_is_integer) (defBody s_law_is_integer) (defScope s_law_is_integer) .none kV_law_is_integer dc_law_is_integer pm_law_is_integer an_law_is_integer cd_law_is_integer ct_law_is_integer), sl_law_is_integer⟩)
    (c_law_is_integer : PySem.W.codeIn K cd_law_is_integer "_law_is_integer" = true)
    (k_law_is_integer : PySem.W.keepIn K (.ref f_law_is_integer) = true)
    (a_law_is_pool : PySem.W.nsIn K mainGlobals "_law_is_pool" = some (some (.ref f_law_is_pool)))
    (l_law_is_pool : K.lookup f_law_is_pool = some ⟨oc_law_is_pool, od_law_is_pool, .func (PySem.W.fnOf "_law_is_pool" "_law_is_pool" (defArgs s_law_is_pool) (defBody s_law_is_pool) (defScope s_law_is_pool) .none kV_law_is_pool dc_law_is_pool pm_law_is_pool an_law_is_pool cd_law_is_pool ct_law_is_pool), sl_law_is_pool⟩)
    (c_law_is_pool : PySem.W.codeIn K cd_law_is_pool "_law_is_pool" = true)
    (k_law_is_pool : PySem.W.keepIn K (.ref f_law_is_pool) = true)
    (a_law_is_dealing : PySem.W.nsIn K mainGlobals "_law_is_dealing" = some (some (.ref f_law_is_dealing)))
    (l_law_is_dealing : K.lookup f_law_is_dealing = some ⟨oc_law_is_dealing, od_law_is_dealing, .func (PySem.W.fnOf "_law_is_dealing" "_law_is_dealing" (defArgs s_law_is_dealing) (defBody s_law_is_dealing) (defScope s_law_is_dealing) .none kV_law_is_dealing dc_law_is_dealing pm_law_is_dealing an_law_is_dealing cd_law_is_dealing ct_law_is_dealing), sl_law_is_dealing⟩)
    (c_law_is_dealing : PySem.W.codeIn K cd_law_is_dealing "_law_is_dealing" = true)
    (k_law_is_dealing : PySem.W.keepIn K (.ref f_law_is_dealing) = true)
    (a_law_says : PySem.W.nsIn K mainGlobals "_law_says" = some (some (.ref f_law_says)))
    (l_law_says : K.lookup f_law_says = some ⟨oc_law_says, od_law_says, .func (PySem.W.fnOf "_law_says" "_law_says" (defArgs s_law_says) (defBody s_law_says) (defScope s_law_says) .none kV_law_says dc_law_says pm_law_says an_law_says cd_law_says ct_law_says), sl_law_says⟩)
    (c_law_says : PySem.W.codeIn K cd_law_says "_law_says" = true)
    (k_law_says : PySem.W.keepIn K (.ref f_law_says) = true)
    (a_law_filled : PySem.W.nsIn K mainGlobals "_law_filled" = some (some (.ref f_law_filled)))
    (l_law_filled : K.lookup f_law_filled = some ⟨oc_law_filled, od_law_filled, .func (PySem.W.fnOf "_law_filled" "_law_filled" (defArgs s_law_filled) (defBody s_law_filled) (defScope s_law_filled) .none kV_law_filled dc_law_filled pm_law_filled an_law_filled cd_law_filled ct_law_filled), sl_law_filled⟩)
    (c_law_filled : PySem.W.codeIn K cd_law_filled "_law_filled" = true)
    (k_law_filled : PySem.W.keepIn K (.ref f_law_filled) = true)
    (a_law_entry : PySem.W.nsIn K mainGlobals "_law_entry" = some (some (.ref f_law_entry)))
    (l_law_entry : K.lookup f_law_entry = some ⟨oc_law_entry, od_law_entry, .func (PySem.W.fnOf "_law_entry" "_law_entry" (defArgs s_law_entry) (defBody s_law_entry) (defScope s_law_entry) .none kV_law_entry dc_law_entry pm_law_entry an_law_entry cd_law_entry ct_law_entry), sl_law_entry⟩)
    (c_law_entry : PySem.W.codeIn K cd_law_entry "_law_entry" = true)
    (k_law_entry : PySem.W.keepIn K (.ref f_law_entry) = true)
    (a_law_is_lot : PySem.W.nsIn K mainGlobals "_law_is_lot" = some (some (.ref f_law_is_lot)))
    (l_law_is_lot : K.lookup f_law_is_lot = some ⟨oc_law_is_lot, od_law_is_lot, .func (PySem.W.fnOf "_law_is_lot" "_law_is_lot" (defArgs s_law_is_lot) (defBody s_law_is_lot) (defScope s_law_is_lot) .none kV_law_is_lot dc_law_is_lot pm_law_is_lot an_law_is_lot cd_law_is_lot ct_law_is_lot), sl_law_is_lot⟩)
    (c_law_is_lot : PySem.W.codeIn K cd_law_is_lot "_law_is_lot" = true)
    (k_law_is_lot : PySem.W.keepIn K (.ref f_law_is_lot) = true)
    (a_law_spoilt : PySem.W.nsIn K mainGlobals "_law_spoilt" = some (some (.ref f_law_spoilt)))
    (l_law_spoilt : K.lookup f_law_spoilt = some ⟨oc_law_spoilt, od_law_spoilt, .func (PySem.W.fnOf "_law_spoilt" "_law_spoilt" (defArgs s_law_spoilt) (defBody s_law_spoilt) (defScope s_law_spoilt) .none kV_law_spoilt dc_law_spoilt pm_law_spoilt an_law_spoilt cd_law_spoilt ct_law_spoilt), sl_law_spoilt⟩)
    (c_law_spoilt : PySem.W.codeIn K cd_law_spoilt "_law_spoilt" = true)
    (k_law_spoilt : PySem.W.keepIn K (.ref f_law_spoilt) = true)
    (a_law_drawn_dealing : PySem.W.nsIn K mainGlobals "_law_drawn_dealing" = some (some (.ref f_law_drawn_dealing)))
    (l_law_drawn_dealing : K.lookup f_law_drawn_dealing = some ⟨oc_law_drawn_dealing, od_law_drawn_dealing, .func (PySem.W.fnOf "_law_drawn_dealing" "_law_drawn_dealing" (defArgs s_law_drawn_dealing) (defBody s_law_drawn_dealing) (defScope s_law_drawn_dealing) .none kV_law_drawn_dealing dc_law_drawn_dealing pm_law_drawn_dealing an_law_drawn_dealing cd_law_drawn_dealing ct_law_drawn_dealing), sl_law_drawn_dealing⟩)
    (c_law_drawn_dealing : PySem.W.codeIn K cd_law_drawn_dealing "_law_drawn_dealing" = true)
    (k_law_drawn_dealing : PySem.W.keepIn K (.ref f_law_drawn_dealing) = true)
    (a_law_asks_dealing : PySem.W.nsIn K mainGlobals "_law_asks_dealing" = some (some (.ref f_law_asks_dealing)))
    (l_law_asks_dealing : K.lookup f_law_asks_dealing = some ⟨oc_law_asks_dealing, od_law_asks_dealing, .func (PySem.W.fnOf "_law_asks_dealing" "_law_asks_dealing" (defArgs s_law_asks_dealing) (defBody s_law_asks_dealing) (defScope s_law_asks_dealing) .none kV_law_asks_dealing dc_law_asks_dealing pm_law_asks_dealing an_law_asks_dealing cd_law_asks_dealing ct_law_asks_dealing), sl_law_asks_dealing⟩)
    (c_law_asks_dealing : PySem.W.codeIn K cd_law_asks_dealing "_law_asks_dealing" = true)
    (k_law_asks_dealing : PySem.W.keepIn K (.ref f_law_asks_dealing) = true)
    (a_law_asks_lot : PySem.W.nsIn K mainGlobals "_law_asks_lot" = some (some (.ref f_law_asks_lot)))
    (l_law_asks_lot : K.lookup f_law_asks_lot = some ⟨oc_law_asks_lot, od_law_asks_lot, .func (PySem.W.fnOf "_law_asks_lot" "_law_asks_lot" (defArgs s_law_asks_lot) (defBody s_law_asks_lot) (defScope s_law_asks_lot) .none kV_law_asks_lot dc_law_asks_lot pm_law_asks_lot an_law_asks_lot cd_law_asks_lot ct_law_asks_lot), sl_law_asks_lot⟩)
    (c_law_asks_lot : PySem.W.codeIn K cd_law_asks_lot "_law_asks_lot" = true)
    (k_law_asks_lot : PySem.W.keepIn K (.ref f_law_asks_lot) = true)
    (a_law : PySem.W.nsIn K mainGlobals "law" = some (some (.ref f_law)))
    (l_law : K.lookup f_law = some ⟨oc_law, od_law, .func (PySem.W.fnOf "law" "law" (defArgs s_law) (defBody s_law) (defScope s_law) .none kV_law dc_law pm_law an_law cd_law ct_law), sl_law⟩)
    (c_law : PySem.W.codeIn K cd_law "law" = true)
    (k_law : PySem.W.keepIn K (.ref f_law) = true)
    : ∃ fd : FuncData, (∀ (s : Shared) (v : Value), BindsTo s fd ⟨[v], []⟩ [("_law_script", v)]) ∧ ∀ base : Heap, K.In base → base.Ns mainGlobals mg → Zg.FnG l.prog w K mg base 6 fa fd ["_law_script"] (spLaw K) := by
  have e := hfa.symm.trans (PySem.W.mg_of X G a_law)
  cases e
  let T : Txt K mg := { c := ⟨C_Pool⟩, m_abs := PySem.W.mg_none_of X G z_abs, m_all := PySem.W.mg_none_of X G z_all, m_bool := PySem.W.mg_none_of X G z_bool, m_enumerate := PySem.W.mg_none_of X G z_enumerate, m_int := PySem.W.mg_none_of X G z_int, m_isinstance := PySem.W.mg_none_of X G z_isinstance, m_len := PySem.W.mg_none_of X G z_len, m_list := PySem.W.mg_none_of X G z_list, m_max := PySem.W.mg_none_of X G z_max, m_min := PySem.W.mg_none_of X G z_min, m_range := PySem.W.mg_none_of X G z_range, m_repr := PySem.W.mg_none_of X G z_repr, m_set := PySem.W.mg_none_of X G z_set, m_sorted := PySem.W.mg_none_of X G z_sorted, m_tuple := PySem.W.mg_none_of X G z_tuple, cl_Pool := ⟨pg_Pool, hd_Pool, po_Pool, sa_Pool⟩, c_Pool := PySem.W.mg_of X G aC_Pool, n_Pool_caps := n_Pool_caps, n_Pool_holders := n_Pool_holders, n_Pool_seats := n_Pool_seats, n_Pool_pieces := n_Pool_pieces, f_are_different := f_are_different, fd_are_different := _, F_are_different := fun_mk (st := s_are_different) l_are_different c_are_different k_are_different, b_are_different := (fun_mk (st := s_are_different) l_are_different c_are_different k_are_different).binds (ps := ["numbers", "limit"]) fun _ _ _ _ _ _ us hl => match us, hl with | [_, _], _ => rfl, g_are_different := PySem.W.mg_of X G a_are_different, f_are_ascending := f_are_ascending, fd_are_ascending := _, F_are_ascending := fun_mk (st := s_are_ascending) l_are_ascending c_are_ascending k_are_ascending, b_are_ascending := (fun_mk (st := s_are_ascending) l_are_ascending c_are_ascending k_are_ascending).binds (ps := ["numbers", "limit"]) fun _ _ _ _ _ _ us hl => match us, hl with | [_, _], _ => rfl, g_are_ascending := PySem.W.mg_of X G a_are_ascending, f_Pool_init := f_Pool_init, fd_Pool_init := _, F_Pool_init := fun_mk (st := s_Pool_init) l_Pool_init c_Pool_init k_Pool_init, b_Pool_init := (fun_mk (st := s_Pool_init) l_Pool_init c_Pool_init k_Pool_init).binds (ps := ["self", "caps", "holders"]) fun _ _ _ _ _ _ us hl => match us, hl with | [_, _, _], _ => rfl, M_Pool := ⟨mk_Pool, a_Pool_init, i_Pool_init, kc_Pool⟩, f_ordered_holders := f_ordered_holders, fd_ordered_holders := _, F_ordered_holders := fun_mk (st := s_ordered_holders) l_ordered_holders c_ordered_holders k_ordered_holders, b_ordered_holders := (fun_mk (st := s_ordered_holders) l_ordered_holders c_ordered_holders k_ordered_holders).binds (ps := ["holders", "seats"]) fun _ _ _ _ _ _ us hl => match us, hl with | [_, _], _ => rfl, g_ordered_holders := PySem.W.mg_of X G a_ordered_holders, f_pair_room := f_pair_room, fd_pair_room := _, F_pair_room := fun_mk (st := s_pair_room) l_pair_room c_pair_room k_pair_room, b_pair_room := (fun_mk (st := s_pair_room) l_pair_room c_pair_room k_pair_room).binds (ps := ["pool", "pair"]) fun _ _ _ _ _ _ us hl => match us, hl with | [_, _], _ => rfl, g_pair_room := PySem.W.mg_of X G a_pair_room, f_holds_pair := f_holds_pair, fd_holds_pair := _, F_holds_pair := fun_mk (st := s_holds_pair) l_holds_pair c_holds_pair k_holds_pair, b_holds_pair := (fun_mk (st := s_holds_pair) l_holds_pair c_holds_pair k_holds_pair).binds (ps := ["pool", "piece", "pair"]) fun _ _ _ _ _ _ us hl => match us, hl with | [_, _, _], _ => rfl, g_holds_pair := PySem.W.mg_of X G a_holds_pair, f_is_dealing := f_is_dealing, fd_is_dealing := _, F_is_dealing := fun_mk (st := s_is_dealing) l_is_dealing c_is_dealing k_is_dealing, b_is_dealing := (fun_mk (st := s_is_dealing) l_is_dealing c_is_dealing k_is_dealing).binds (ps := ["pool", "dealing"]) fun _ _ _ _ _ _ us hl => match us, hl with | [_, _], _ => rfl, g_is_dealing := PySem.W.mg_of X G a_is_dealing, f_is_lot := f_is_lot, fd_is_lot := _, F_is_lot := fun_mk (st := s_is_lot) l_is_lot c_is_lot k_is_lot, b_is_lot := (fun_mk (st := s_is_lot) l_is_lot c_is_lot k_is_lot).binds (ps := ["pool", "lot"]) fun _ _ _ _ _ _ us hl => match us, hl with | [_, _], _ => rfl, g_is_lot := PySem.W.mg_of X G a_is_lot, f_law_cell := f_law_cell, fd_law_cell := _, F_law_cell := fun_mk (st := s_law_cell) l_law_cell c_law_cell k_law_cell, b_law_cell := (fun_mk (st := s_law_cell) l_law_cell c_law_cell k_law_cell).binds (ps := ["_law_script", "_law_k"]) fun _ _ _ _ _ _ us hl => match us, hl with | [_, _], _ => rfl, g_law_cell := PySem.W.mg_of X G a_law_cell, f_law_draws := f_law_draws, fd_law_draws := _, F_law_draws := fun_mk (st := s_law_draws) l_law_draws c_law_draws k_law_draws, b_law_draws := (fun_mk (st := s_law_draws) l_law_draws c_law_draws k_law_draws).binds (ps := ["_law_cell_here", "_law_sizes"]) fun _ _ _ _ _ _ us hl => match us, hl with | [_, _], _ => rfl, g_law_draws := PySem.W.mg_of X G a_law_draws, f_law_bits := f_law_bits, fd_law_bits := _, F_law_bits := fun_mk (st := s_law_bits) l_law_bits c_law_bits k_law_bits, b_law_bits := (fun_mk (st := s_law_bits) l_law_bits c_law_bits k_law_bits).binds (ps := ["_law_mask", "_law_count"]) fun _ _ _ _ _ _ us hl => match us, hl with | [_, _], _ => rfl, g_law_bits := PySem.W.mg_of X G a_law_bits, f_law_pairs := f_law_pairs, fd_law_pairs := _, F_law_pairs := fun_mk (st := s_law_pairs) l_law_pairs c_law_pairs k_law_pairs, b_law_pairs := (fun_mk (st := s_law_pairs) l_law_pairs c_law_pairs k_law_pairs).binds (ps := ["_law_seats"]) fun _ _ _ _ _ _ us hl => match us, hl with | [_], _ => rfl, g_law_pairs := PySem.W.mg_of X G a_law_pairs, f_law_pool := f_law_pool, fd_law_pool := _, F_law_pool := fun_mk (st := s_law_pool) l_law_pool c_law_pool k_law_pool, b_law_pool := (fun_mk (st := s_law_pool) l_law_pool c_law_pool k_law_pool).binds (ps := ["_law_cell_here", "_law_most"]) fun _ _ _ _ _ _ us hl => match us, hl with | [_, _], _ => rfl, g_law_pool := PySem.W.mg_of X G a_law_pool, f_law_wide_bits := f_law_wide_bits, fd_law_wide_bits := _, F_law_wide_bits := fun_mk (st := s_law_wide_bits) l_law_wide_bits c_law_wide_bits k_law_wide_bits, b_law_wide_bits := (fun_mk (st := s_law_wide_bits) l_law_wide_bits c_law_wide_bits k_law_wide_bits).binds (ps := ["_law_mask", "_law_count"]) fun _ _ _ _ _ _ us hl => match us, hl with | [_, _], _ => rfl, g_law_wide_bits := PySem.W.mg_of X G a_law_wide_bits, f_law_wide_pool := f_law_wide_pool, fd_law_wide_pool := _, F_law_wide_pool := fun_mk (st := s_law_wide_pool) l_law_wide_pool c_law_wide_pool k_law_wide_pool, b_law_wide_pool := (fun_mk (st := s_law_wide_pool) l_law_wide_pool c_law_wide_pool k_law_wide_pool).binds (ps := ["_law_cell_here", "_law_most"]) fun _ _ _ _ _ _ us hl => match us, hl with | [_, _], _ => rfl, g_law_wide_pool := PySem.W.mg_of X G a_law_wide_pool, f_law_is_integer := f_law_is_integer, fd_law_is_integer := _, F_law_is_integer := fun_mk (st := s_law_is_integer) l_law_is_integer c_law_is_integer k_law_is_integer, b_law_is_integer := (fun_mk (st := s_law_is_integer) l_law_is_integer c_law_is_integer k_law_is_integer).binds (ps := ["_law_actual"]) fun _ _ _ _ _ _ us hl => match us, hl with | [_], _ => rfl, g_law_is_integer := PySem.W.mg_of X G a_law_is_integer, f_law_is_pool := f_law_is_pool, fd_law_is_pool := _, F_law_is_pool := fun_mk (st := s_law_is_pool) l_law_is_pool c_law_is_pool k_law_is_pool, b_law_is_pool := (fun_mk (st := s_law_is_pool) l_law_is_pool c_law_is_pool k_law_is_pool).binds (ps := ["_law_pool_here", "_law_caps", "_law_holders"]) fun _ _ _ _ _ _ us hl => match us, hl with | [_, _, _], _ => rfl, g_law_is_pool := PySem.W.mg_of X G a_law_is_pool, f_law_is_dealing := f_law_is_dealing, fd_law_is_dealing := _, F_law_is_dealing := fun_mk (st := s_law_is_dealing) l_law_is_dealing c_law_is_dealing k_law_is_dealing, b_law_is_dealing := (fun_mk (st := s_law_is_dealing) l_law_is_dealing c_law_is_dealing k_law_is_dealing).binds (ps := ["_law_caps", "_law_holders", "_law_dealing"]) fun _ _ _ _ _ _ us hl => match us, hl with | [_, _, _], _ => rfl, g_law_is_dealing := PySem.W.mg_of X G a_law_is_dealing, f_law_says := f_law_says, fd_law_says := _, F_law_says := fun_mk (st := s_law_says) l_law_says c_law_says k_law_says, b_law_says := (fun_mk (st := s_law_says) l_law_says c_law_says k_law_says).binds (ps := ["_law_actual", "_law_due"]) fun _ _ _ _ _ _ us hl => match us, hl with | [_, _], _ => rfl, g_law_says := PySem.W.mg_of X G a_law_says, f_law_filled := f_law_filled, fd_law_filled := _, F_law_filled := fun_mk (st := s_law_filled) l_law_filled c_law_filled k_law_filled, b_law_filled := (fun_mk (st := s_law_filled) l_law_filled c_law_filled k_law_filled).binds (ps := ["_law_caps", "_law_holders", "_law_drawn"]) fun _ _ _ _ _ _ us hl => match us, hl with | [_, _, _], _ => rfl, g_law_filled := PySem.W.mg_of X G a_law_filled, f_law_entry := f_law_entry, fd_law_entry := _, F_law_entry := fun_mk (st := s_law_entry) l_law_entry c_law_entry k_law_entry, b_law_entry := (fun_mk (st := s_law_entry) l_law_entry c_law_entry k_law_entry).binds (ps := ["_law_caps", "_law_dealing", "_law_number"]) fun _ _ _ _ _ _ us hl => match us, hl with | [_, _, _], _ => rfl, g_law_entry := PySem.W.mg_of X G a_law_entry, f_law_is_lot := f_law_is_lot, fd_law_is_lot := _, F_law_is_lot := fun_mk (st := s_law_is_lot) l_law_is_lot c_law_is_lot k_law_is_lot, b_law_is_lot := (fun_mk (st := s_law_is_lot) l_law_is_lot c_law_is_lot k_law_is_lot).binds (ps := ["_law_lot", "_law_many"]) fun _ _ _ _ _ _ us hl => match us, hl with | [_, _], _ => rfl, g_law_is_lot := PySem.W.mg_of X G a_law_is_lot, f_law_spoilt := f_law_spoilt, fd_law_spoilt := _, F_law_spoilt := fun_mk (st := s_law_spoilt) l_law_spoilt c_law_spoilt k_law_spoilt, b_law_spoilt := (fun_mk (st := s_law_spoilt) l_law_spoilt c_law_spoilt k_law_spoilt).binds (ps := ["_law_lot", "_law_many", "_law_way", "_law_spot", "_law_pick"]) fun _ _ _ _ _ _ us hl => match us, hl with | [_, _, _, _, _], _ => rfl, g_law_spoilt := PySem.W.mg_of X G a_law_spoilt, f_law_drawn_dealing := f_law_drawn_dealing, fd_law_drawn_dealing := _, F_law_drawn_dealing := fun_mk (st := s_law_drawn_dealing) l_law_drawn_dealing c_law_drawn_dealing k_law_drawn_dealing, b_law_drawn_dealing := (fun_mk (st := s_law_drawn_dealing) l_law_drawn_dealing c_law_drawn_dealing k_law_drawn_dealing).binds (ps := ["_law_caps", "_law_holders", "_law_drawn", "_law_more"]) fun _ _ _ _ _ _ us hl => match us, hl with | [_, _, _, _], _ => rfl, g_law_drawn_dealing := PySem.W.mg_of X G a_law_drawn_dealing, f_law_asks_dealing := f_law_asks_dealing, fd_law_asks_dealing := _, F_law_asks_dealing := fun_mk (st := s_law_asks_dealing) l_law_asks_dealing c_law_asks_dealing k_law_asks_dealing, b_law_asks_dealing := (fun_mk (st := s_law_asks_dealing) l_law_asks_dealing c_law_asks_dealing k_law_asks_dealing).binds (ps := ["_law_pool_here", "_law_caps", "_law_holders", "_law_dealing", "_law_drawn"]) fun _ _ _ _ _ _ us hl => match us, hl with | [_, _, _, _, _], _ => rfl, g_law_asks_dealing := PySem.W.mg_of X G a_law_asks_dealing, f_law_asks_lot := f_law_asks_lot, fd_law_asks_lot := _, F_law_asks_lot := fun_mk (st := s_law_asks_lot) l_law_asks_lot c_law_asks_lot k_law_asks_lot, b_law_asks_lot := (fun_mk (st := s_law_asks_lot) l_law_asks_lot c_law_asks_lot k_law_asks_lot).binds (ps := ["_law_pool_here", "_law_many", "_law_lot", "_law_extra"]) fun _ _ _ _ _ _ us hl => match us, hl with | [_, _, _, _], _ => rfl, g_law_asks_lot := PySem.W.mg_of X G a_law_asks_lot, f_law := fa, fd_law := _, F_law := fun_mk (st := s_law) l_law c_law k_law, b_law := (fun_mk (st := s_law) l_law c_law k_law).binds (ps := ["_law_script"]) fun _ _ _ _ _ _ us hl => match us, hl with | [_], _ => rfl, g_law := PySem.W.mg_of X G a_law }
  exact ⟨T.fd_law, fun s v => .of_eq rfl, fun base _ _ => law_sp main T⟩
theorem walk {l : PySem.W.OpenLaw} {q : Program} {loose : List Str} {XP : (Str → Option Value) → Heap → Prop} {YP : World → Heap → Prop} {d : DefRec} {K : Params → PySem.W.Frag} (hn : l.most = some 63) (hdf : d.params.defaults = [])
    (hY : ∀ (w : World) (h : Heap), YP w h → (K w.params).In h)
    (F : ∀ (w : World) (mg : Str → Option Value) (fa : Addr) (h : Heap), (K w.params).In h → h.Ns mainGlobals mg → mg d.name = some (.ref fa) →
      ∃ fd : FuncData, (∀ (s : Shared) (u : Value), BindsTo s fd ⟨[u], []⟩ [("_law_script", u)]) ∧ ∀ base : Heap, (K w.params).In base → base.Ns mainGlobals mg → Zg.FnG l.prog w (K w.params) mg base 6 fa fd ["_law_script"] (spLaw (K w.params))) :
    PySem.W.WalkO q loose XP YP l.row.toRowW d [] (fun f vs => PySem.call f vs) :=
  Zg.walk_ofG (n := 63) (k := 6) (x := "_law_script") (sp := fun w => spLaw (K w.params)) hn (by decide) hdf ⟨rfl, by decide, by decide⟩ hY F (fun _ _ a ns hl _ hS => ⟨a, ns, rfl, hS, hl, fun _ => rfl⟩)
end Y
open PySem PySem.W PyProof.Rows in
set_option maxRecDepth 100000 in
set_option maxHeartbeats 0 in
theorem PySem.Challenge.cw_pairwarden_k05_papers_of_dealings_holds : PySem.Challenge.rw_pairwarden_k05_papers_of_dealings.Holds := by
  w_on; o_law; k_head; (case hw => w_witness2)
  k_fill
  refine Y.walk (l := PySem.Challenge.rw_pairwarden_k05_papers_of_dealings) rfl rfl (fun w h Y => PySem.W.kIn_of Y) ?F
  case F =>
    intro w mg fa h KX G hmg
    refine' Y.all_mk Y.main KX G hmg ?z_abs ?z_all ?z_bool ?z_enumerate ?z_int ?z_isinstance ?z_len ?z_list ?z_max ?z_min ?z_range ?z_repr ?z_set ?z_sorted ?z_tuple ?aC_Pool ?pg_Pool ?hd_Pool ?po_Pool ?sa_Pool ?mk_Pool ?kc_Pool ?n_Pool_caps ?n_Pool_holders ?n_Pool_seats ?n_Pool_pieces ?a_are_different ?l_are_different ?c_are_different ?k_are_different ?a_are_ascending ?l_are_ascending ?c_are_ascending ?k_are_ascending ?a_Pool_init ?i_Pool_init ?l_Pool_init ?c_Pool_init ?k_Pool_init ?a_ordered_holders ?l_ordered_holders ?c_ordered_holders ?k_ordered_holders ?a_pair_room ?l_pair_room ?c_pair_room ?k_pair_room ?a_holds_pair ?l_holds_pair ?c_holds_pair ?k_holds_pair ?a_is_dealing ?l_is_dealing ?c_is_dealing ?k_is_dealing ?a_is_lot ?l_is_lot ?c_is_lot ?k_is_lot ?a_law_cell ?l_law_cell ?c_law_cell ?k_law_cell ?a_law_draws ?l_law_draws ?c_law_draws ?k_law_draws ?a_law_bits ?l_law_bits ?c_law_bits ?k_law_bits ?a_law_pairs ?l_law_pairs ?c_law_pairs ?k_law_pairs ?a_law_pool ?l_law_pool ?c_law_pool ?k_law_pool ?a_law_wide_bits ?l_law_wide_bits ?c_law_wide_bits ?k_law_wide_bits ?a_law_wide_pool ?l_law_wide_pool ?c_law_wide_pool ?k_law_wide_pool ?a_law_is_integer ?l_law_is_integer ?c_law_is_integer ?k_law_is_integer ?a_law_is_pool ?l_law_is_pool ?c_law_is_pool ?k_law_is_pool ?a_law_is_dealing ?l_law_is_dealing ?c_law_is_dealing ?k_law_is_dealing ?a_law_says ?l_law_says ?c_law_says ?k_law_says ?a_law_filled ?l_law_filled ?c_law_filled ?k_law_filled ?a_law_entry ?l_law_entry ?c_law_entry ?k_law_entry ?a_law_is_lot ?l_law_is_lot ?c_law_is_lot ?k_law_is_lot ?a_law_spoilt ?l_law_spoilt ?c_law_spoilt ?k_law_spoilt ?a_law_drawn_dealing ?l_law_drawn_dealing ?c_law_drawn_dealing ?k_law_drawn_dealing ?a_law_asks_dealing ?l_law_asks_dealing ?c_law_asks_dealing ?k_law_asks_dealing ?a_law_asks_lot ?l_law_asks_lot ?c_law_asks_lot ?k_law_asks_lot ?a_law ?l_law ?c_law ?k_law
    (case z_abs => k_is)
    (case z_all => k_is)
    (case z_bool => k_is)
    (case z_enumerate => k_is)
    (case z_int => k_is)
    (case z_isinstance => k_is)
    (case z_len => k_is)
    (case z_list => k_is)
    (case z_max => k_is)
    (case z_min => k_is)
    (case z_range => k_is)
    (case z_repr => k_is)
    (case z_set => k_is)
    (case z_sorted => k_is)
    (case z_tuple => k_is)
    (case aC_Pool => k_is)
    (case pg_Pool => k_is)
    (case hd_Pool => k_is)
    (case po_Pool => k_is)
    (case sa_Pool => k_is)
    (case mk_Pool => k_is)
    (case kc_Pool => k_is)
    (case n_Pool_caps => k_is)
    (case n_Pool_holders => k_is)
    (case n_Pool_seats => k_is)
    (case n_Pool_pieces => k_is)
    (case a_are_different => k_is)
    (case l_are_different => k_is)
    (case c_are_different => k_is)
    (case k_are_different => k_is)
    (case a_are_ascending => k_is)
    (case l_are_ascending => k_is)
    (case c_are_ascending => k_is)
    (case k_are_ascending => k_is)
    (case a_Pool_init => k_is)
    (case i_Pool_init => k_is)
    (case l_Pool_init => k_is)
    (case c_Pool_init => k_is)
    (case k_Pool_init => k_is)
    (case a_ordered_holders => k_is)
    (case l_ordered_holders => k_is)
    (case c_ordered_holders => k_is)
    (case k_ordered_holders => k_is)
    (case a_pair_room => k_is)
    (case l_pair_room => k_is)
    (case c_pair_room => k_is)
    (case k_pair_room => k_is)
    (case a_holds_pair => k_is)
    (case l_holds_pair => k_is)
    (case c_holds_pair => k_is)
    (case k_holds_pair => k_is)
    (case a_is_dealing => k_is)
    (case l_is_dealing => k_is)
    (case c_is_dealing => k_is)
    (case k_is_dealing => k_is)
    (case a_is_lot => k_is)
    (case l_is_lot => k_is)
    (case c_is_lot => k_is)
    (case k_is_lot => k_is)
    (case a_law_cell => k_is)
    (case l_law_cell => k_is)
    (case c_law_cell => k_is)
    (case k_law_cell => k_is)
    (case a_law_draws => k_is)
    (case l_law_draws => k_is)
    (case c_law_draws => k_is)
    (case k_law_draws => k_is)
    (case a_law_bits => k_is)
    (case l_law_bits => k_is)
    (case c_law_bits => k_is)
    (case k_law_bits => k_is)
    (case a_law_pairs => k_is)
    (case l_law_pairs => k_is)
    (case c_law_pairs => k_is)
    (case k_law_pairs => k_is)
    (case a_law_pool => k_is)
    (case l_law_pool => k_is)
    (case c_law_pool => k_is)
    (case k_law_pool => k_is)
    (case a_law_wide_bits => k_is)
    (case l_law_wide_bits => k_is)
    (case c_law_wide_bits => k_is)
    (case k_law_wide_bits => k_is)
    (case a_law_wide_pool => k_is)
    (case l_law_wide_pool => k_is)
    (case c_law_wide_pool => k_is)
    (case k_law_wide_pool => k_is)
    (case a_law_is_integer => k_is)
    (case l_law_is_integer => k_is)
    (case c_law_is_integer => k_is)
    (case k_law_is_integer => k_is)
    (case a_law_is_pool => k_is)
    (case l_law_is_pool => k_is)
    (case c_law_is_pool => k_is)
    (case k_law_is_pool => k_is)
    (case a_law_is_dealing => k_is)
    (case l_law_is_dealing => k_is)
    (case c_law_is_dealing => k_is)
    (case k_law_is_dealing => k_is)
    (case a_law_says => k_is)
    (case l_law_says => k_is)
    (case c_law_says => k_is)
    (case k_law_says => k_is)
    (case a_law_filled => k_is)
    (case l_law_filled => k_is)
    (case c_law_filled => k_is)
    (case k_law_filled => k_is)
    (case a_law_entry => k_is)
    (case l_law_entry => k_is)
    (case c_law_entry => k_is)
    (case k_law_entry => k_is)
    (case a_law_is_lot => k_is)
    (case l_law_is_lot => k_is)
    (case c_law_is_lot => k_is)
    (case k_law_is_lot => k_is)
    (case a_law_spoilt => k_is)
    (case l_law_spoilt => k_is)
    (case c_law_spoilt => k_is)
    (case k_law_spoilt => k_is)
    (case a_law_drawn_dealing => k_is)
    (case l_law_drawn_dealing => k_is)
    (case c_law_drawn_dealing => k_is)
    (case k_law_drawn_dealing => k_is)
    (case a_law_asks_dealing => k_is)
    (case l_law_asks_dealing => k_is)
    (case c_law_asks_dealing => k_is)
    (case k_law_asks_dealing => k_is)
    (case a_law_asks_lot => k_is)
    (case l_law_asks_lot => k_is)
    (case c_law_asks_lot => k_is)
    (case k_law_asks_lot => k_is)
    (case a_law => k_is)
    (case l_law => k_is)
    (case c_law => k_is)
    (case k_law => k_is)
end

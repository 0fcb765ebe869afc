import PyProof.Rows.All
import Wide.All
import OpenK.AllK
import Wide.FinOn
import HandS.ForMost
import HandS.Evl
import HandS.Strs
import HandS.Wide
import HandS.IsInst
import HandS.SortInts
import HandS.SortOrd
import KE.GoesEnum
import PyProof.TupleOfSeq
import PyProof.WalkInts
import HandS.Rev
import PyProof.ListNew
import HandS.TupAny
import HandS.SetFor
import HandS.Zip
import PyProof.Rows.CountFlat
import PyProof.P3In
import KE.KDictWalk
import HandS.Style
import HandS.Conv
import HandS.Defaults
import PyProof.DictMoreH
import PyProof.ReprRoads
import HandS.ExcOwn
import HandS.ExcIs
import HandS.Small
import HandS.SortRule
import HandS.Codes
import PyProof.Rows.MatchSeqLen
import PyProof.Rows.TupIter
import HandS.ExcInit
import HandS.ExcField
import KE.KExcIs
import HandS.Flow
import HandS.DictComp
import HandS.DictSubView
import HandS.More
import KE.KDictSum
import KE.KDictCopyH
import HandS.TupSets
import HandS.SetBool
import KE.SortKeyHeap
import OpenK.KCall
import HandS.Lambda
import HandS.SortKw
import HandS.FStr
import KE.KUnpackStar
import KE.GoesEnumKw
import PyProof.StrBlock2
import HandS.HotCalls
import KE.KxField
import PyProof.FactsAll.list_3
import HandS.TupLe
import PyProof.ZipIter
import PyProof.CallType
import PyProof.WalkLemmas
import PyProof.RulesTry
import HandS.RepeatKit
import HandS.DictSubView0
import HandS.RevRange
import HandS.ReplaceLit
import HandS.ReplaceList
import KE.SortData
import PyProof.Rows.StrJoinRep
import PyProof.Rows.StrClose5
import KE.RegKIsAll
import KE.RegKTryMore
import KE.KNestM
import HandS.EndTab
import HandS.EndBits
import PySem.Challenge.RW_pairwarden_k54_whole_best_lot
namespace Rk
end Rk
namespace Y
end Y
namespace Zb
end Zb
namespace Zc
end Zc
namespace Zd
end Zd
namespace Zf
end Zf
namespace Zf6
end Zf6
namespace Zg
end Zg
namespace Zi
end Zi
namespace Zj
end Zj
namespace Zk
end Zk
namespace Zk2
end Zk2
namespace Zm
end Zm
namespace Zn
end Zn
namespace Zp
end Zp
namespace Zq
end Zq
namespace Zq5
end Zq5
namespace Zq6
end Zq6
namespace Zq7
end Zq7
namespace Zq8
end Zq8
namespace Zq9
end Zq9
namespace Zr
end Zr
namespace Zra
end Zra
namespace Zrb
end Zrb
namespace Zsk
end Zsk
namespace Zsl
end Zsl
namespace Zst
end Zst
namespace Zst2
end Zst2
namespace Zsu
end Zsu
namespace Zt
end Zt
namespace Zu
end Zu
namespace Zv
end Zv
namespace Zw
end Zw
namespace Zx
end Zx
section
set_option Elab.async false
set_option linter.all false
set_option maxRecDepth 100000
set_option autoImplicit false
set_option maxHeartbeats 2000000
/-! Data as trees over the layer: what is represented, what is owned. -/
namespace Zk
open PySem L2
open Evl (Ex)

inductive D where
  | non | bl (b : Bool) | int (i : Int) | str (s : Str)
  | lst (ds : List D) | tup (ds : List D)
  | scr (ns : List Int)
  | ins (C : Addr) (fs : List (Str × D))
  | dct (kvs : List (List Key × D))
  | dck (kvs : List (Key × D))
  | sti (w : World) (ns : List Int)
  | exn (a dd C : Addr) (fs : List (Str × D))
  | adr (a : Addr) (d : D)
  | ty (n : String) | cls (C : Addr)

def D.flat : D → Bool
  | .non => true | .bl _ => true | .int _ => true | .str _ => true | .ty _ => true | .cls _ => true | _ => false

variable {K : PySem.W.Frag}

mutual
inductive Rp (K : PySem.W.Frag) (O : Addr → Prop) (H : Hp) : V → D → Prop
  | non : Rp K O H .non .non
  | bl (b : Bool) : Rp K O H (.bl b) (.bl b)
  | int (i : Int) : Rp K O H (.int i) (.int i)
  | str (s : Str) : Rp K O H (.str s) (.str s)
  | ty (n : String) : Rp K O H (.ty n) (.ty n)
  | cls (C : Addr) : Rp K O H (.ref C) (.cls C)
  | lst {a : Addr} {xs : List V} {ds : List D} : ¬ O a → H a = some (.lst xs) → RpA K O H xs ds → Rp K O H (.ref a) (.lst ds)
  | tup {a : Addr} {xs : List V} {ds : List D} : ¬ O a → H a = some (.tup xs) → RpA K O H xs ds → Rp K O H (.ref a) (.tup ds)
  | dct {a : Addr} {xs : List (List Key × V)} {kvs : List (List Key × D)} : ¬ O a → H a = some (.dT xs) → xs.map (·.1) = kvs.map (·.1) → RpA K O H (xs.map (·.2)) (kvs.map (·.2)) → Rp K O H (.ref a) (.dct kvs)
  | dck {a : Addr} {xs : List (Key × V)} {kvs : List (Key × D)} : ¬ O a → H a = some (.dK xs) → xs.map (·.1) = kvs.map (·.1) → RpA K O H (xs.map (·.2)) (kvs.map (·.2)) → Rp K O H (.ref a) (.dck kvs)
  | sti {a : Addr} {w : World} {ns : List Int} : ¬ O a → H a = some (SetO w a (fun i => ns.contains i) ns.length) → Rp K O H (.ref a) (.sti w ns)
  | exn {a dd C : Addr} {fs : List (Str × V)} {gs : List (Str × D)} : ¬ O dd → H dd = some (.xd fs) → RpF K O H fs gs → Rp K O H (.ref a) (.exn a dd C gs)
  | adr {a : Addr} {d : D} : Rp K O H (.ref a) d → Rp K O H (.ref a) (.adr a d)
  | scr {a : Addr} {ns : List Int} : ¬ O a → Rd H a (.lst (ns.map V.int)) → Rp K O H (.ref a) (.scr ns)
  | kscr {a : Addr} {ns : List Int} : (∀ G : Hp, SqL K G a (ns.map V.int)) → Rp K O H (.ref a) (.scr ns)
  | ins {a C dx : Addr} {fs : List (Str × V)} {gs : List (Str × D)} : ¬ O a → H a = some (.ins C dx fs) → RpF K O H fs gs → Rp K O H (.ref a) (.ins C gs)
inductive RpA (K : PySem.W.Frag) (O : Addr → Prop) (H : Hp) : List V → List D → Prop
  | nil : RpA K O H [] []
  | cons {v : V} {vs : List V} {d : D} {ds : List D} : Rp K O H v d → RpA K O H vs ds → RpA K O H (v :: vs) (d :: ds)
inductive RpF (K : PySem.W.Frag) (O : Addr → Prop) (H : Hp) : List (Str × V) → List (Str × D) → Prop
  | nil : RpF K O H [] []
  | cons {n : Str} {v : V} {vs : List (Str × V)} {d : D} {ds : List (Str × D)} : Rp K O H v d → RpF K O H vs ds → RpF K O H ((n, v) :: vs) ((n, d) :: ds)
end

/-- what H and O know stays known by H' and O' -/
def Kp (O : Addr → Prop) (H : Hp) (O' : Addr → Prop) (H' : Hp) : Prop := ∀ a o, ¬ O a → H a = some o → ¬ O' a ∧ H' a = some o
theorem Kp.refl (O : Addr → Prop) (H : Hp) : Kp O H O H := fun _ _ h e => ⟨h, e⟩
theorem Kp.trans {O O1 O2 : Addr → Prop} {H H1 H2 : Hp} (x : Kp O H O1 H1) (y : Kp O1 H1 O2 H2) : Kp O H O2 H2 := fun a o h e => y a o (x a o h e).1 (x a o h e).2
theorem Kp.ex {O : Addr → Prop} {H H' : Hp} (e : Ex H H') : Kp O H O H' := fun a o h q => ⟨h, e a o q⟩

mutual
theorem Rp.kp {O O' : Addr → Prop} {H H' : Hp} (k : Kp O H O' H') : ∀ {v : V} {d : D}, Rp K O H v d → Rp K O' H' v d
  | _, _, .non => .non
  | _, _, .bl b => .bl b
  | _, _, .int i => .int i
  | _, _, .str s => .str s
  | _, _, .ty n => .ty n
  | _, _, .cls C => .cls C
  | _, _, .lst n h r => .lst (k _ _ n h).1 (k _ _ n h).2 (RpA.kp k r)
  | _, _, .tup n h r => .tup (k _ _ n h).1 (k _ _ n h).2 (RpA.kp k r)
  | _, _, .dct n h e r => .dct (k _ _ n h).1 (k _ _ n h).2 e (RpA.kp k r)
  | _, _, .dck n h e r => .dck (k _ _ n h).1 (k _ _ n h).2 e (RpA.kp k r)
  | _, _, .sti n h => .sti (k _ _ n h).1 (k _ _ n h).2
  | _, _, .exn n h r => .exn (k _ _ n h).1 (k _ _ n h).2 (RpF.kp k r)
  | _, _, .adr r => .adr (Rp.kp k r)
  | _, _, .scr n (.inl h) => .scr (k _ _ n h).1 (.inl (k _ _ n h).2)
  | _, _, .scr n (.inr ⟨o, h⟩) => .scr (k _ _ n h).1 (.inr ⟨o, (k _ _ n h).2⟩)
  | _, _, .kscr h => .kscr h
  | _, _, .ins n h r => .ins (k _ _ n h).1 (k _ _ n h).2 (RpF.kp k r)
theorem RpA.kp {O O' : Addr → Prop} {H H' : Hp} (k : Kp O H O' H') : ∀ {v : List V} {d : List D}, RpA K O H v d → RpA K O' H' v d
  | _, _, .nil => .nil
  | _, _, .cons h r => .cons (Rp.kp k h) (RpA.kp k r)
theorem RpF.kp {O O' : Addr → Prop} {H H' : Hp} (k : Kp O H O' H') : ∀ {v : List (Str × V)} {d : List (Str × D)}, RpF K O H v d → RpF K O' H' v d
  | _, _, .nil => .nil
  | _, _, .cons h r => .cons (Rp.kp k h) (RpF.kp k r)
end

theorem Rp.ex {O : Addr → Prop} {H H' : Hp} {v : V} {d : D} (r : Rp K O H v d) (e : Ex H H') : Rp K O H' v d := r.kp (Kp.ex e)
theorem RpA.ex {O : Addr → Prop} {H H' : Hp} {v : List V} {d : List D} (r : RpA K O H v d) (e : Ex H H') : RpA K O H' v d := r.kp (Kp.ex e)
theorem RpF.ex {O : Addr → Prop} {H H' : Hp} {v : List (Str × V)} {d : List (Str × D)} (r : RpF K O H v d) (e : Ex H H') : RpF K O H' v d := r.kp (Kp.ex e)
/-- flat data wants no heap -/
theorem Rp.flat {O O' : Addr → Prop} {H H' : Hp} {v : V} {d : D} (r : Rp K O H v d) (f : d.flat = true) : Rp K O' H' v d := by
  cases r <;> first | (cases f; done) | exact .non | exact .bl _ | exact .int _ | exact .str _ | exact .ty _ | exact .cls _

theorem RpA.len {O : Addr → Prop} {H : Hp} : ∀ {v : List V} {d : List D}, RpA K O H v d → v.length = d.length
  | _, _, .nil => rfl
  | _, _, .cons _ r => congrArg (· + 1) r.len
theorem RpA.get {O : Addr → Prop} {H : Hp} : ∀ {vs : List V} {ds : List D} {i : Nat} {d : D}, RpA K O H vs ds → ds[i]? = some d → ∃ v, vs[i]? = some v ∧ Rp K O H v d
  | _, _, i, d, .nil, e => by simp at e
  | _, _, 0, d, .cons h r, e => by
    simp at e
    subst e
    exact ⟨_, rfl, h⟩
  | _, _, i + 1, d, .cons h r, e => by
    simp at e
    obtain ⟨v, e1, e2⟩ := RpA.get r e
    exact ⟨v, by simpa using e1, e2⟩
theorem RpA.app {O : Addr → Prop} {H : Hp} : ∀ {vs : List V} {ds : List D} {ws : List V} {es : List D}, RpA K O H vs ds → RpA K O H ws es → RpA K O H (vs ++ ws) (ds ++ es)
  | _, _, _, _, .nil, r => r
  | _, _, _, _, .cons h q, r => .cons h (q.app r)
theorem RpA.one {O : Addr → Prop} {H : Hp} {v : V} {d : D} (r : Rp K O H v d) : RpA K O H [v] [d] := .cons r .nil
theorem RpA.take {O : Addr → Prop} {H : Hp} : ∀ {vs : List V} {ds : List D} (n : Nat), RpA K O H vs ds → RpA K O H (vs.take n) (ds.take n)
  | _, _, 0, _ => .nil
  | _, _, n + 1, .nil => .nil
  | _, _, n + 1, .cons h r => .cons h (r.take n)
theorem RpA.drop {O : Addr → Prop} {H : Hp} : ∀ {vs : List V} {ds : List D} (n : Nat), RpA K O H vs ds → RpA K O H (vs.drop n) (ds.drop n)
  | _, _, 0, r => r
  | _, _, n + 1, .nil => .nil
  | _, _, n + 1, .cons _ r => r.drop n
theorem RpA.set {O : Addr → Prop} {H : Hp} {v : V} {d : D} (h : Rp K O H v d) : ∀ {vs : List V} {ds : List D} (n : Nat), RpA K O H vs ds → RpA K O H (vs.set n v) (ds.set n d)
  | _, _, _, .nil => .nil
  | _, _, 0, .cons _ r => .cons h r
  | _, _, n + 1, .cons q r => .cons q (r.set h n)
theorem RpA.reverse {O : Addr → Prop} {H : Hp} {vs : List V} {ds : List D} (r : RpA K O H vs ds) : RpA K O H vs.reverse ds.reverse := by
  induction r using RpA.rec (motive_1 := fun _ _ _ => True) (motive_3 := fun _ _ _ => True) with
  | nil => exact .nil
  | cons h _ _ ih => rw [List.reverse_cons, List.reverse_cons]; exact ih.app (.one h)
  | _ => trivial
/-- a list of ints -/
def iL (ns : List Int) : List D := ns.map D.int
theorem RpA.toInts {O : Addr → Prop} {H : Hp} : ∀ {vs : List V} {ns : List Int}, RpA K O H vs (Zk.iL ns) → vs = ns.map V.int
  | _, [], .nil => rfl
  | _, n :: ns, .cons (.int _) r => by rw [List.map_cons, r.toInts]
theorem RpA.ofInts {O : Addr → Prop} {H : Hp} : ∀ (ns : List Int), RpA K O H (ns.map V.int) (Zk.iL ns)
  | [] => .nil
  | n :: ns => .cons (.int n) (RpA.ofInts ns)
theorem RpF.look {O : Addr → Prop} {H : Hp} {f : Str} : ∀ {fs : List (Str × V)} {gs : List (Str × D)} {d : D}, RpF K O H fs gs → gs.lookup f = some d → ∃ v, fs.lookup f = some v ∧ Rp K O H v d
  | _, _, d, .nil, e => by cases e
  | _, _, d, .cons (n := n) h r, e => by
    rw [List.lookup_cons] at e ⊢
    cases q : (f == n) with
    | true =>
      rw [q] at e
      cases e
      exact ⟨_, rfl, h⟩
    | false =>
      rw [q] at e
      exact r.look e

/-! ### the state of a def: slots, what is owned -/
inductive Wd where
  | v (d : D) | o (d : D)
abbrev Gm : Type := List (Option Wd)

/-- an owned thing: its top stands apart, what it holds is known -/
def RpO (K : PySem.W.Frag) (O : Addr → Prop) (H : Hp) (a : Addr) : D → Prop
  | .lst ds => ∃ xs, H a = some (.lst xs) ∧ RpA K O H xs ds
  | .ins C gs => ∃ dx fs, H a = some (.ins C dx fs) ∧ RpF K O H fs gs
  | .dct kvs => ∃ xs, H a = some (.dT xs) ∧ xs.map (·.1) = kvs.map (·.1) ∧ RpA K O H (xs.map (·.2)) (kvs.map (·.2))
  | .dck kvs => ∃ xs, H a = some (.dK xs) ∧ xs.map (·.1) = kvs.map (·.1) ∧ RpA K O H (xs.map (·.2)) (kvs.map (·.2))
  | .sti w ns => H a = some (SetO w a (fun i => ns.contains i) ns.length)
  | _ => False
theorem RpO.kp {O O' : Addr → Prop} {H H' : Hp} {a : Addr} {d : D} (k : Kp O H O' H') (e : H' a = H a) (r : RpO K O H a d) : RpO K O' H' a d := by
  cases d with
  | lst ds => obtain ⟨xs, h, q⟩ := r; exact ⟨xs, e.trans h, q.kp k⟩
  | ins C gs => obtain ⟨dx, fs, h, q⟩ := r; exact ⟨dx, fs, e.trans h, q.kp k⟩
  | dct kvs => obtain ⟨xs, h, e1, q⟩ := r; exact ⟨xs, e.trans h, e1, q.kp k⟩
  | dck kvs => obtain ⟨xs, h, e1, q⟩ := r; exact ⟨xs, e.trans h, e1, q.kp k⟩
  | sti w ns => exact e.trans r
  | _ => exact r.elim
theorem RpO.rp {O O' : Addr → Prop} {H : Hp} {a : Addr} {d : D} (k : Kp O H O' H) (n : ¬ O' a) (r : RpO K O H a d) : Rp K O' H (.ref a) d := by
  cases d with
  | lst ds => obtain ⟨xs, h, q⟩ := r; exact .lst n h (q.kp k)
  | ins C gs => obtain ⟨dx, fs, h, q⟩ := r; exact .ins n h (q.kp k)
  | dct kvs => obtain ⟨xs, h, e1, q⟩ := r; exact .dct n h e1 (q.kp k)
  | dck kvs => obtain ⟨xs, h, e1, q⟩ := r; exact .dck n h e1 (q.kp k)
  | sti w ns => exact .sti n r
  | _ => exact r.elim
/-- there, and no tuple -/
def Lv (H : Hp) (a : Addr) : Prop := H a ≠ none ∧ ∀ xs, H a ≠ some (.tup xs)
theorem Lv.ex {H H' : Hp} {a : Addr} (h : Lv H a) (e : Ex H H') : Lv H' a := by
  cases z : H a with
  | none => exact absurd z h.1
  | some o =>
    have := e a o z
    exact ⟨fun q => (by rw [this] at q; cases q), fun xs q => (by rw [this] at q; exact h.2 xs (z.trans q))⟩
theorem RpO.lv {O : Addr → Prop} {H : Hp} {a : Addr} {d : D} (r : RpO K O H a d) : Lv H a := by
  cases d with
  | lst ds => obtain ⟨xs, h, q⟩ := r; exact ⟨fun z => (by rw [h] at z; cases z), fun _ z => (by rw [h] at z; cases z)⟩
  | ins C gs => obtain ⟨dx, fs, h, q⟩ := r; exact ⟨fun z => (by rw [h] at z; cases z), fun _ z => (by rw [h] at z; cases z)⟩
  | dct kvs => obtain ⟨xs, h, e1, q⟩ := r; exact ⟨fun z => (by rw [h] at z; cases z), fun _ z => (by rw [h] at z; cases z)⟩
  | dck kvs => obtain ⟨xs, h, e1, q⟩ := r; exact ⟨fun z => (by rw [h] at z; cases z), fun _ z => (by rw [h] at z; cases z)⟩
  | sti w ns =>
    have h : H a = some (SetO w a (fun i => ns.contains i) ns.length) := r
    exact ⟨fun z => (by rw [h] at z; cases z), fun _ z => (by rw [h] at z; cases z)⟩
  | _ => exact r.elim
theorem RpO.there {O : Addr → Prop} {H : Hp} {a : Addr} {d : D} (r : RpO K O H a d) : H a ≠ none := by
  cases d with
  | lst ds => obtain ⟨xs, h, q⟩ := r; rw [h]; exact fun z => by cases z
  | ins C gs => obtain ⟨dx, fs, h, q⟩ := r; rw [h]; exact fun z => by cases z
  | dct kvs => obtain ⟨xs, h, e1, q⟩ := r; rw [h]; exact fun z => by cases z
  | dck kvs => obtain ⟨xs, h, e1, q⟩ := r; rw [h]; exact fun z => by cases z
  | sti w ns =>
    have h : H a = some (SetO w a (fun i => ns.contains i) ns.length) := r
    rw [h]; exact fun z => by cases z
  | _ => exact r.elim

abbrev OW := Nat → Option Addr
def OO (Oc : Addr → Prop) (ow : OW) : Addr → Prop := fun a => Oc a ∨ ∃ i, ow i = some a
def noOw : OW := fun _ => none

/-- what is kept in sight: values that stay known; the object that slot 0 makes -/
structure Pn where
  ps : List (V × D)
  me : Option Addr

structure Reps (K : PySem.W.Frag) (H0 : Hp) (Oc : Addr → Prop) (pins : Pn) (ow : OW) (σ : L2.St) (H : Hp) (g : Gm) : Prop where
  len : σ.length = g.length
  ex : Ex H0 H
  oc : ∀ a, Oc a → Lv H0 a
  fr : ∀ (i : Nat) (a : Addr), ow i = some a → H0 a = none ∧ Lv H a
  inj : ∀ (i j : Nat) (a : Addr), ow i = some a → ow j = some a → i = j
  is : ∀ (i : Nat) (a : Addr), ow i = some a → ∃ d : D, g[i]? = some (some (Wd.o d))
  val : ∀ (i : Nat) (d : D), g[i]? = some (some (Wd.v d)) → ∃ v, σ[i]? = some (some v) ∧ Rp K (OO Oc ow) H v d
  own : ∀ (i : Nat) (d : D), g[i]? = some (some (Wd.o d)) → ∃ a, ow i = some a ∧ σ[i]? = some (some (.ref a)) ∧ RpO K (OO Oc ow) H a d
  pin : ∀ p ∈ pins.ps, Rp K (OO Oc ow) H p.1 p.2
  slf : ∀ x, pins.me = some x → ow 0 = some x

section
variable {H0 H H' : Hp} {Oc : Addr → Prop} {pins : Pn} {ow : OW} {σ : L2.St} {g : Gm}
theorem Reps.oo (R : Reps K H0 Oc pins ow σ H g) : ∀ a, OO Oc ow a → Lv H a := fun a h => by
  rcases h with h | ⟨i, h⟩
  · exact (R.oc a h).ex R.ex
  · exact (R.fr i a h).2
theorem Reps.grow (R : Reps K H0 Oc pins ow σ H g) (e : Ex H H') : Reps K H0 Oc pins ow σ H' g where
  len := R.len
  ex := R.ex.trans e
  oc := R.oc
  fr := fun i a h => ⟨(R.fr i a h).1, (R.fr i a h).2.ex e⟩
  inj := R.inj
  is := R.is
  val := fun i d h => let ⟨v, h1, h2⟩ := R.val i d h; ⟨v, h1, h2.ex e⟩
  own := fun i d h => let ⟨a, h1, h2, h3⟩ := R.own i d h; ⟨a, h1, h2, h3.kp (Kp.ex e) (by
    cases z : H a with
    | none => exact absurd z h3.there
    | some o => exact e a o z)⟩
  pin := fun p h => (R.pin p h).ex e
  slf := R.slf
theorem Reps.new {p : Addr} (R : Reps K H0 Oc pins ow σ H g) (h : H p = none) : ¬ OO Oc ow p := fun q => (R.oo p q).1 h
end

/-! ### freezing -/
def Wd.frz : Wd → Wd
  | .v d => .v d
  | .o d => .v d
def frzAll (g : Gm) : Gm := g.map (Option.map Wd.frz)
theorem frzAll_get (g : Gm) (i : Nat) : (frzAll g)[i]? = (g[i]?).map (Option.map Wd.frz) := by unfold frzAll; rw [List.getElem?_map]
def frz1 (g : Gm) (i : Nat) : Gm := if i = 0 then g else match g[i]? with
  | some (some (Wd.o d)) => g.set i (some (Wd.v d))
  | _ => g
def frzs (g : Gm) : List Nat → Gm
  | [] => g
  | i :: is => frzs (frz1 g i) is

section
variable {H0 H H' : Hp} {Oc : Addr → Prop} {pins : Pn} {ow : OW} {σ : L2.St} {g : Gm}
theorem Reps.kpDrop (R : Reps K H0 Oc pins ow σ H g) {ow' : OW} (h : ∀ i a, ow' i = some a → ow i = some a) : Kp (OO Oc ow) H (OO Oc ow') H := fun a o n e =>
  ⟨fun q => n (q.imp id fun ⟨i, z⟩ => ⟨i, h i a z⟩), e⟩
theorem Reps.frzAll (R : Reps K H0 Oc pins ow σ H g) : Reps K H0 Oc ⟨pins.ps, none⟩ noOw σ H (frzAll g) where
  len := by unfold Zk.frzAll; rw [List.length_map]; exact R.len
  ex := R.ex
  oc := R.oc
  fr := fun i a h => by cases h
  inj := fun i j a h => by cases h
  is := fun i a h => by cases h
  val := fun i d h => by
    have k := R.kpDrop (ow' := noOw) (fun i a z => by cases z)
    rw [frzAll_get] at h
    cases q : g[i]? with
    | none => rw [q] at h; cases h
    | some o =>
      rw [q] at h
      cases o with
      | none => cases h
      | some w =>
        cases w with
        | v d' =>
          cases h
          obtain ⟨v, h1, h2⟩ := R.val i d q
          exact ⟨v, h1, h2.kp k⟩
        | o d' =>
          cases h
          obtain ⟨a, h1, h2, h3⟩ := R.own i d q
          refine ⟨.ref a, h2, h3.rp k fun z => ?_⟩
          rcases z with z | ⟨j, z⟩
          · exact (R.oc a z).1 (R.fr i a h1).1
          · cases z
  own := fun i d h => by
    rw [frzAll_get] at h
    cases q : g[i]? with
    | none => rw [q] at h; cases h
    | some o =>
      rw [q] at h
      cases o with
      | none => cases h
      | some w => cases w <;> cases h
  pin := fun p h => (R.pin p h).kp (R.kpDrop (fun i a z => by cases z))
  slf := fun x h => by cases h
theorem Reps.frz1 (R : Reps K H0 Oc pins ow σ H g) (i : Nat) : ∃ ow', Reps K H0 Oc pins ow' σ H (frz1 g i) := by
  unfold Zk.frz1
  by_cases i0 : i = 0
  · rw [if_pos i0]; exact ⟨ow, R⟩
  rw [if_neg i0]
  split
  · rename_i d hd
    have hi : i < g.length := (List.getElem?_eq_some_iff.mp hd).1
    have hk : ∀ j a, (fun j => if j = i then none else ow j) j = some a → ow j = some a := fun j a z => by
      dsimp only at z
      split at z
      · cases z
      · exact z
    have k := R.kpDrop hk
    obtain ⟨ai, hi1, hi2, hi3⟩ := R.own i d hd
    refine ⟨fun j => if j = i then none else ow j, ?_⟩
    exact {
      len := by rw [List.length_set]; exact R.len
      ex := R.ex
      oc := R.oc
      fr := fun j a h => R.fr j a (hk j a h)
      inj := fun j l a h h' => R.inj j l a (hk j a h) (hk l a h')
      is := fun j a h => by
        have q := R.is j a (hk j a h)
        have n : j ≠ i := fun z => by
          rw [if_pos z] at h; cases h
        rw [List.getElem?_set_ne (Ne.symm n)]
        exact q
      val := fun j d' h => by
        by_cases n : j = i
        · subst n
          rw [List.getElem?_set_self hi] at h
          cases h
          refine ⟨.ref ai, hi2, hi3.rp k fun z => ?_⟩
          rcases z with z | ⟨l, z⟩
          · exact (R.oc ai z).1 (R.fr j ai hi1).1
          · have e := R.inj l j ai (hk l ai z) hi1
            have z' : (if l = j then none else ow l) = some ai := z
            rw [if_pos e] at z'
            cases z'
        · rw [List.getElem?_set_ne (Ne.symm n)] at h
          obtain ⟨v, h1, h2⟩ := R.val j d' h
          exact ⟨v, h1, h2.kp k⟩
      own := fun j d' h => by
        by_cases n : j = i
        · subst n
          rw [List.getElem?_set_self hi] at h
          cases h
        · rw [List.getElem?_set_ne (Ne.symm n)] at h
          obtain ⟨a, h1, h2, h3⟩ := R.own j d' h
          exact ⟨a, by rw [if_neg n]; exact h1, h2, h3.kp k rfl⟩
      pin := fun p h => (R.pin p h).kp k
      slf := fun x h => by rw [if_neg (Ne.symm i0)]; exact R.slf x h }
  · exact ⟨ow, R⟩
theorem Reps.frzs : ∀ (is : List Nat) {ow : OW} {g : Gm}, Reps K H0 Oc pins ow σ H g → ∃ ow', Reps K H0 Oc pins ow' σ H (Zk.frzs g is)
  | [], ow, g, R => ⟨ow, R⟩
  | i :: is, ow, g, R => by
    obtain ⟨ow1, R1⟩ := R.frz1 i
    exact Reps.frzs is R1
end
end Zk
end

section
set_option Elab.async false
set_option linter.all false
set_option maxRecDepth 100000
set_option autoImplicit false
set_option maxHeartbeats 2000000
/-! What expressions are worth, as data. -/
namespace Zk
open PySem L2
open Evl (Ex)

abbrev DF : Type := Gm → Option D
abbrev DAF : Type := Gm → Option (List D)
abbrev DTF : Type := Gm → Option Bool
def dVar (i : Nat) : DF := fun g => match g[i]? with
  | some (some (.v d)) => some d
  | _ => none
def dC (d : D) : DF := fun _ => some d
def d1 (f : D → Option D) (a : DF) : DF := fun g => (a g).bind f
def d2 (f : D → D → Option D) (a b : DF) : DF := fun g => (a g).bind fun x => (b g).bind fun y => f x y
def dN (f : List D → Option D) (a : DAF) : DF := fun g => (a g).bind f
def aNil : DAF := fun _ => some []
def aCons (a : DF) (r : DAF) : DAF := fun g => (a g).bind fun x => (r g).bind fun xs => some (x :: xs)
def mkTup (xs : List D) : Option D := if xs.length ≤ 100000 then some (.tup xs) else none
def mkLst (xs : List D) : Option D := if xs.length ≤ 100000 then some (.lst xs) else none

section
variable (K : PySem.W.Frag)
/-- an expression's reading te is worth t -/
def ER (te : TE) (t : DF) : Prop := ∀ g d, t g = some d → ∀ H0 Oc pins ow σ H, Reps K H0 Oc pins ow σ H g → ∀ Q : VK, (∀ v H', Ex H H' → Rp K (OO Oc ow) H' v d → Q v H') → te σ H Q
def AR (ta : TA) (t : DAF) : Prop := ∀ g ds, t g = some ds → ∀ H0 Oc pins ow σ H, Reps K H0 Oc pins ow σ H g → ∀ Q : List V → Hp → Prop, (∀ vs H', Ex H H' → RpA K (OO Oc ow) H' vs ds → Q vs H') → ta σ H Q
def TR (tt : TT) (t : DTF) : Prop := ∀ g b, t g = some b → ∀ H0 Oc pins ow σ H, Reps K H0 Oc pins ow σ H g → ∀ Q : Bool → Hp → Prop, (∀ H', Ex H H' → Q b H') → tt σ H Q
/-- operations by values -/
def RR (r : R2) (f : D → D → Option D) : Prop := ∀ x y d, f x y = some d → ∀ (O : Addr → Prop) H v u, (∀ a, O a → Lv H a) → Rp K O H v x → Rp K O H u y → ∀ Q : VK, (∀ w H', Ex H H' → Rp K O H' w d → Q w H') → r v u H Q
def RU (r : V → Hp → VK → Prop) (f : D → Option D) : Prop := ∀ x d, f x = some d → ∀ (O : Addr → Prop) H v, (∀ a, O a → Lv H a) → Rp K O H v x → ∀ Q : VK, (∀ w H', Ex H H' → Rp K O H' w d → Q w H') → r v H Q
def RC (r : List V → Hp → VK → Prop) (f : List D → Option D) : Prop := ∀ xs d, f xs = some d → ∀ (O : Addr → Prop) H vs, (∀ a, O a → Lv H a) → RpA K O H vs xs → ∀ Q : VK, (∀ w H', Ex H H' → Rp K O H' w d → Q w H') → r vs H Q
end

section
variable {K : PySem.W.Frag} {ta tb tc te : TE} {a b c : DF} {tt tu : TT} {t u : DTF}
theorem er_var (i : Nat) : ER K (tVar i) (dVar i) := fun g d h H0 Oc pins ow σ H R Q q => by
  unfold dVar at h
  split at h
  · rename_i d' e
    cases h
    obtain ⟨v, h1, h2⟩ := R.val i d e
    exact ⟨v, h1, q v H (Evl.Ex.refl H) h2⟩
  · cases h
theorem er_int {i : Int} : ER K (tC (.int i)) (dC (.int i)) := fun g d h H0 Oc pins ow σ H R Q q => by cases h; exact q _ H (Evl.Ex.refl H) (.int i)
theorem er_bl {i : Bool} : ER K (tC (.bl i)) (dC (.bl i)) := fun g d h H0 Oc pins ow σ H R Q q => by cases h; exact q _ H (Evl.Ex.refl H) (.bl i)
theorem er_non : ER K (tC .non) (dC .non) := fun g d h H0 Oc pins ow σ H R Q q => by cases h; exact q _ H (Evl.Ex.refl H) .non
theorem er_ty {n : String} : ER K (tC (.ty n)) (dC (.ty n)) := fun g d h H0 Oc pins ow σ H R Q q => by cases h; exact q _ H (Evl.Ex.refl H) (.ty n)
theorem er_2 {r : R2} {f : D → D → Option D} (hf : RR K r f) (ha : ER K ta a) (hb : ER K tb b) : ER K (tOp r ta tb) (d2 f a b) := fun g d h H0 Oc pins ow σ H R Q q => by
  unfold d2 at h
  cases ea : a g with
  | none => rw [ea] at h; cases h
  | some x =>
    rw [ea] at h
    cases eb : b g with
    | none => simp [eb] at h
    | some y =>
      simp only [Option.bind_some, eb] at h
      refine ha g x ea H0 Oc pins ow σ H R _ fun v H1 e1 r1 => ?_
      refine hb g y eb H0 Oc pins ow σ H1 (R.grow e1) _ fun w H2 e2 r2 => ?_
      exact hf x y d h (OO Oc ow) H2 v w ((R.grow e1).grow e2).oo (r1.ex e2) r2 Q fun z H3 e3 r3 => q z H3 ((e1.trans e2).trans e3) r3
theorem er_1 {r : V → Hp → VK → Prop} {f : D → Option D} (hf : RU K r f) (ha : ER K ta a) : ER K (tUn r ta) (d1 f a) := fun g d h H0 Oc pins ow σ H R Q q => by
  unfold d1 at h
  cases ea : a g with
  | none => rw [ea] at h; cases h
  | some x =>
    rw [ea] at h
    refine ha g x ea H0 Oc pins ow σ H R _ fun v H1 e1 r1 => ?_
    exact hf x d h (OO Oc ow) H1 v (R.grow e1).oo r1 Q fun z H3 e3 r3 => q z H3 (e1.trans e3) r3
theorem ar_nil : AR K tNil aNil := fun g d h H0 Oc pins ow σ H R Q q => by cases h; exact q _ H (Evl.Ex.refl H) .nil
theorem ar_cons {tr : TA} {r : DAF} (ha : ER K ta a) (hr : AR K tr r) : AR K (tCons ta tr) (aCons a r) := fun g d h H0 Oc pins ow σ H R Q q => by
  unfold aCons at h
  cases ea : a g with
  | none => rw [ea] at h; cases h
  | some x =>
    rw [ea] at h
    cases eb : r g with
    | none => simp [eb] at h
    | some y =>
      simp only [Option.bind_some, eb] at h
      cases h
      refine ha g x ea H0 Oc pins ow σ H R _ fun v H1 e1 r1 => ?_
      refine hr g y eb H0 Oc pins ow σ H1 (R.grow e1) _ fun w H2 e2 r2 => ?_
      exact q _ H2 (e1.trans e2) (.cons (r1.ex e2) r2)
theorem er_n {r : List V → Hp → VK → Prop} {f : List D → Option D} {tr : TA} {s : DAF} (hf : RC K r f) (ha : AR K tr s) : ER K (tCB r tr) (dN f s) := fun g d h H0 Oc pins ow σ H R Q q => by
  unfold dN at h
  cases ea : s g with
  | none => rw [ea] at h; cases h
  | some x =>
    rw [ea] at h
    refine ha g x ea H0 Oc pins ow σ H R _ fun v H1 e1 r1 => ?_
    exact hf x d h (OO Oc ow) H1 v (R.grow e1).oo r1 Q fun z H3 e3 r3 => q z H3 (e1.trans e3) r3
theorem new_not {O : Addr → Prop} {H : Hp} {p : Addr} (o : ∀ a, O a → Lv H a) (h : H p = none) : ¬ O p := fun z => (o p z).1 h
theorem er_tup {tr : TA} {s : DAF} (ha : AR K tr s) : ER K (tTup tr) (dN mkTup s) := fun g d h H0 Oc pins ow σ H R Q q => by
  unfold dN at h
  cases ea : s g with
  | none => rw [ea] at h; cases h
  | some x =>
    rw [ea] at h
    unfold mkTup at h
    simp only [Option.bind_some] at h
    split at h
    · rename_i hl
      cases h
      refine ha g x ea H0 Oc pins ow σ H R _ fun v H1 e1 r1 => ⟨by rw [r1.len]; exact Evl.sz_of hl, fun p hp => ?_⟩
      have e2 := Evl.Ex.new (o := .tup v) hp
      exact q _ _ (e1.trans e2) (.tup (new_not (R.grow e1).oo hp) upd_same (r1.ex e2))
    · cases h
theorem er_lst {tr : TA} {s : DAF} (ha : AR K tr s) : ER K (tLst tr) (dN mkLst s) := fun g d h H0 Oc pins ow σ H R Q q => by
  unfold dN at h
  cases ea : s g with
  | none => rw [ea] at h; cases h
  | some x =>
    rw [ea] at h
    unfold mkLst at h
    simp only [Option.bind_some] at h
    split at h
    · rename_i hl
      cases h
      refine ha g x ea H0 Oc pins ow σ H R _ fun v H1 e1 r1 => ⟨by rw [r1.len]; exact Evl.sz_of hl, fun p hp => ?_⟩
      have e2 := Evl.Ex.new (o := .lst v) hp
      exact q _ _ (e1.trans e2) (.lst (new_not (R.grow e1).oo hp) upd_same (r1.ex e2))
    · cases h

/-! ### tests -/
def truD : D → Option Bool
  | .non => some false
  | .bl b => some b
  | .int i => some (i != 0)
  | .str s => if s.length ≤ 100000 then some ((s.length : Int) != 0) else none
  | .lst ds => some (!ds.isEmpty)
  | .tup ds => some (!ds.isEmpty)
  | _ => none
theorem RpA.isEmpty {O : Addr → Prop} {H : Hp} {vs : List V} {ds : List D} (r : RpA K O H vs ds) : vs.isEmpty = ds.isEmpty := by
  cases r <;> rfl
theorem tru_rp {O : Addr → Prop} {H : Hp} {v : V} {d : D} {b : Bool} (r : Rp K O H v d) (h : truD d = some b) : TruV K v H b := by
  cases r with
  | non => cases h; exact rfl
  | bl b => cases h; exact rfl
  | int i => cases h; exact rfl
  | str s =>
    have h : (if s.length ≤ 100000 then some ((s.length : Int) != 0) else none) = some b := h
    split at h
    · rename_i hl
      cases h
      exact ⟨Evl.sz_of hl, rfl⟩
    · cases h
  | lst n e x => cases h; exact .inl ⟨_, .of e, by rw [x.isEmpty]⟩
  | tup n e x => cases h; exact .inr (.inl ⟨_, .of e, by rw [x.isEmpty]⟩)
  | dct n e x r => cases h
  | dck n e x r => cases h
  | sti n e => cases h
  | exn n e r => cases h
  | adr r => cases h
  | scr n e => cases h
  | kscr e => cases h
  | ins n e x => cases h
  | ty n => cases h
  | cls C => cases h
/-- a test by the truth of a value -/
def tTru (K : PySem.W.Frag) (te : TE) : TT := fun σ H Q => te σ H fun x H1 => ∃ k, TruV K x H1 k ∧ Q k H1
def tDt (f : D → Option Bool) (a : DF) : DTF := fun g => (a g).bind f
theorem tr_tru (ha : ER K ta a) : TR K (tTru K ta) (tDt truD a) := fun g d h H0 Oc pins ow σ H R Q q => by
  unfold tDt at h
  cases ea : a g with
  | none => rw [ea] at h; cases h
  | some x =>
    rw [ea] at h
    exact ha g x ea H0 Oc pins ow σ H R _ fun v H1 e1 r1 => ⟨d, tru_rp r1 h, q H1 e1⟩
def blD : D → Option Bool
  | .bl b => some b
  | _ => none
theorem tr_test (ha : ER K ta a) : TR K (tTest ta) (tDt blD a) := fun g d h H0 Oc pins ow σ H R Q q => by
  unfold tDt at h
  cases ea : a g with
  | none => rw [ea] at h; cases h
  | some x =>
    rw [ea] at h
    cases x <;> first | cases h | skip
    exact ha g _ ea H0 Oc pins ow σ H R _ fun v H1 e1 r1 => by
      cases r1
      exact ⟨_, rfl, q H1 e1⟩
def dAndT (a b : DTF) : DTF := fun g => (a g).bind fun x => if x = true then b g else some false
def dOrT (a b : DTF) : DTF := fun g => (a g).bind fun x => if x = true then some true else b g
def dNotT (a : DTF) : DTF := fun g => (a g).map (!·)
theorem tr_and (ha : TR K tt t) (hb : TR K tu u) : TR K (tAnd tt tu) (dAndT t u) := fun g d h H0 Oc pins ow σ H R Q q => by
  unfold dAndT at h
  cases ea : t g with
  | none => rw [ea] at h; cases h
  | some x =>
    rw [ea] at h
    simp only [Option.bind_some] at h
    refine ha g x ea H0 Oc pins ow σ H R _ fun H1 e1 => ?_
    cases x with
    | true =>
      rw [if_pos rfl] at h
      show tu σ H1 Q
      exact hb g d h H0 Oc pins ow σ H1 (R.grow e1) Q fun H2 e2 => q H2 (e1.trans e2)
    | false =>
      rw [if_neg Bool.false_ne_true] at h
      cases h
      show Q false H1
      exact q H1 e1
theorem tr_or (ha : TR K tt t) (hb : TR K tu u) : TR K (tOr tt tu) (dOrT t u) := fun g d h H0 Oc pins ow σ H R Q q => by
  unfold dOrT at h
  cases ea : t g with
  | none => rw [ea] at h; cases h
  | some x =>
    rw [ea] at h
    simp only [Option.bind_some] at h
    refine ha g x ea H0 Oc pins ow σ H R _ fun H1 e1 => ?_
    cases x with
    | true =>
      rw [if_pos rfl] at h
      cases h
      show Q true H1
      exact q H1 e1
    | false =>
      rw [if_neg Bool.false_ne_true] at h
      show tu σ H1 Q
      exact hb g d h H0 Oc pins ow σ H1 (R.grow e1) Q fun H2 e2 => q H2 (e1.trans e2)
theorem tr_not (ha : TR K tt t) : TR K (tNot tt) (dNotT t) := fun g d h H0 Oc pins ow σ H R Q q => by
  unfold dNotT at h
  cases ea : t g with
  | none => rw [ea] at h; cases h
  | some x =>
    rw [ea] at h
    cases h
    exact ha g x ea H0 Oc pins ow σ H R _ fun H1 e1 => q H1 e1
/-- and, or, not as values (bools) -/
def dAndV (a b : DF) : DF := fun g => (a g).bind fun x => match x with
  | .bl true => b g
  | .bl false => some (.bl false)
  | _ => none
def dOrV (a b : DF) : DF := fun g => (a g).bind fun x => match x with
  | .bl true => some (.bl true)
  | .bl false => b g
  | _ => none
def notD : D → Option D
  | .bl b => some (.bl (!b))
  | _ => none
theorem er_and (ha : ER K ta a) (hb : ER K tb b) : ER K (tAndV ta tb) (dAndV a b) := fun g d h H0 Oc pins ow σ H R Q q => by
  unfold dAndV at h
  cases ea : a g with
  | none => rw [ea] at h; cases h
  | some x =>
    rw [ea] at h
    simp only [Option.bind_some] at h
    cases x <;> first | cases h | skip
    rename_i k
    refine ha g _ ea H0 Oc pins ow σ H R _ fun v H1 e1 r1 => ?_
    cases r1
    refine ⟨k, rfl, ?_⟩
    cases k with
    | true =>
      show tb σ H1 Q
      exact hb g d h H0 Oc pins ow σ H1 (R.grow e1) Q fun v H2 e2 => q v H2 (e1.trans e2)
    | false =>
      cases h
      show Q (.bl false) H1
      exact q _ H1 e1 (.bl false)
theorem er_not (ha : ER K ta a) : ER K (tNotV ta) (d1 notD a) := fun g d h H0 Oc pins ow σ H R Q q => by
  unfold d1 at h
  cases ea : a g with
  | none => rw [ea] at h; cases h
  | some x =>
    rw [ea] at h
    simp only [Option.bind_some] at h
    cases x <;> first | cases h | skip
    rename_i k
    refine ha g _ ea H0 Oc pins ow σ H R _ fun v H1 e1 r1 => ?_
    cases r1
    exact ⟨k, rfl, q _ H1 e1 (.bl _)⟩
/-- x if c else y -/
def dIf (t : DTF) (a b : DF) : DF := fun g => (t g).bind fun x => if x = true then a g else b g
theorem er_if (ht : TR K tt t) (ha : ER K ta a) (hb : ER K tb b) : ER K (tIf tt ta tb) (dIf t a b) := fun g d h H0 Oc pins ow σ H R Q q => by
  unfold dIf at h
  cases ea : t g with
  | none => rw [ea] at h; cases h
  | some x =>
    rw [ea] at h
    simp only [Option.bind_some] at h
    refine ht g x ea H0 Oc pins ow σ H R _ fun H1 e1 => ?_
    cases x with
    | true =>
      rw [if_pos rfl] at h
      show ta σ H1 Q
      exact ha g d h H0 Oc pins ow σ H1 (R.grow e1) Q fun v H2 e2 => q v H2 (e1.trans e2)
    | false =>
      rw [if_neg Bool.false_ne_true] at h
      show tb σ H1 Q
      exact hb g d h H0 Oc pins ow σ H1 (R.grow e1) Q fun v H2 e2 => q v H2 (e1.trans e2)
/-- a < b < c -/
def dChain (f f' : D → D → Option D) (a b c : DF) : DF := fun g => (a g).bind fun x => (b g).bind fun y => (f x y).bind fun z => match z with
  | .bl true => (c g).bind fun w => f' y w
  | .bl false => some (.bl false)
  | _ => none
theorem er_chain {r r' : R2} {f f' : D → D → Option D} (hf : RR K r f) (hf' : RR K r' f') (ha : ER K ta a) (hb : ER K tb b) (hc : ER K tc c) : ER K (tChain r r' ta tb tc) (dChain f f' a b c) := fun g d h H0 Oc pins ow σ H R Q q => by
  unfold dChain at h
  cases ea : a g with
  | none => rw [ea] at h; cases h
  | some x =>
    rw [ea] at h
    cases eb : b g with
    | none => simp [eb] at h
    | some y =>
      simp only [Option.bind_some, eb] at h
      cases ef : f x y with
      | none => rw [ef] at h; cases h
      | some z =>
        rw [ef] at h
        simp only [Option.bind_some] at h
        cases z <;> first | cases h | skip
        rename_i k
        refine ha g x ea H0 Oc pins ow σ H R _ fun v H1 e1 r1 => ?_
        refine hb g y eb H0 Oc pins ow σ H1 (R.grow e1) _ fun w H2 e2 r2 => ?_
        refine hf x y _ ef (OO Oc ow) H2 v w ((R.grow e1).grow e2).oo (r1.ex e2) r2 _ fun z H3 e3 r3 => ?_
        cases r3
        refine ⟨k, rfl, ?_⟩
        cases k with
        | false =>
          cases h
          show Q (.bl false) H3
          exact q _ H3 ((e1.trans e2).trans e3) (.bl false)
        | true =>
          cases ec : c g with
          | none => simp [ec] at h
          | some w' =>
            simp only [ec, Option.bind_some] at h
            show tc σ H3 fun w' H4 => r' w w' H4 Q
            refine hc g w' ec H0 Oc pins ow σ H3 (((R.grow e1).grow e2).grow e3) _ fun u' H4 e4 r4 => ?_
            exact hf' y w' d h (OO Oc ow) H4 w u' ((((R.grow e1).grow e2).grow e3).grow e4).oo ((r2.ex e3).ex e4) r4 Q fun z H5 e5 r5 => q z H5 ((((e1.trans e2).trans e3).trans e4).trans e5) r5
/-- peeking: a test, or a flat value, may look at what is owned -/
def peekT (t : DTF) : DTF := fun g => t (frzAll g)
theorem tr_peek (ht : TR K tt t) : TR K tt (peekT t) := fun g d h H0 Oc pins ow σ H R Q q => ht _ d h H0 Oc _ noOw σ H R.frzAll Q q
end
end Zk
end

section
set_option Elab.async false
set_option linter.all false
set_option maxRecDepth 100000
set_option maxHeartbeats 4000000
/-! min, sorted, enumerate over tuples -/
namespace TS
open PySem PySem.Spec PySem.Calls PyProof.Rows L2
section
variable {prog : Program} {w : World} {A : Around} {E : Value → Shared → Prop} {s : Shared} {t : Addr}
theorem min_intTup {xs : Array (Int × Tok)} {Q : Value → Shared → Prop} (hh : A.handled = none) (hl : s.heap.IsTuple t (intItems xs)) (hne : 0 < xs.size)
    (h : ∀ v h' tk, (intItems xs)[argBest (fun i j => decide (numAt xs i < numAt xs j)) (xs.size - 1)]? = some v → (∀ b o, s.heap.get? b = some o → h'.get? b = some o) → Q v { s with heap := h', toks := tk }) :
    wpAny (model prog w) A (call (.builtin "min") [.ref t]) Q E s := by
  obtain ⟨o, ho, _⟩ := id hl
  have hlt : t < s.heap.objs.size := Heap.lt_size ho
  refine call_min_walk (wpAny_pyIter_tuple hl ?_)
  refine ⟨_, _, _, _, _, _, _, rfl, Walks.tuple (A := A.in1) hh _ t (Nat.ne_of_lt hlt) (intItems xs), ⟨⟨_, Heap.get?_push_size _ rfl, rfl, rfl⟩, hl.push _⟩, fun b hb => ?_, by simpa [intItems] using hne, CmpOf.ints_lt (numAt xs) (fun _ _ => intItems_at), fun v h' tk hP hk => ?_⟩
  · show b < (s.heap.push _).objs.size
    rw [Heap.size_push]
    rcases List.mem_cons.mp hb with rfl | hb
    · exact Nat.lt_succ_self _
    · rcases List.mem_cons.mp hb with rfl | hb
      · exact Nat.lt_succ_of_lt hlt
      · cases hb
  · refine h v h' tk (by simpa [intItems] using hP) fun b o e => hk b o (fun hm => ?_) (Heap.get?_push_of_some _ e)
    rcases List.mem_cons.mp hm with e1 | hm
    · exact absurd (e1 ▸ Heap.lt_size e) (Nat.lt_irrefl _)
    · cases hm
theorem min_rawT {its : List Value} {ns : List Int} {Q : Value → Shared → Prop} (hh : A.handled = none) (hl : s.heap.IsTuple t its.toArray) (hi : IntsAre its ns) (hne : 0 < ns.length)
    (h : ∀ h' tk M t', (∀ b o, s.heap.get? b = some o → h'.get? b = some o) → M ∈ ns → (∀ a, a ∈ ns → M ≤ a) → Q (.int M t') { s with heap := h', toks := tk }) : wpAny (model prog w) A (call (.builtin "min") [.ref t]) Q E s := by
  obtain ⟨xs, e⟩ := hi.allInts.items
  have hn : numsOf (intItems xs).toList = ns := by rw [← e]; exact hi.numsOf
  rw [nums_intItems] at hn
  subst hn
  rw [e] at hl
  have hsz : 0 < xs.size := by simpa using hne
  refine min_intTup hh hl hsz fun v h' tk hv hk => ?_
  obtain ⟨t, rfl⟩ := intItems_at hv
  obtain ⟨h1, h2⟩ := argBest_lt (numAt xs) (xs.size - 1)
  refine h h' tk _ t hk ?_ fun a ha => ?_
  · rw [numAt_eq]; exact PySem.getD_mem (by rw [List.length_map, Array.length_toList]; omega)
  · obtain ⟨j, hj, rfl⟩ := mem_getD ha
    rw [List.length_map, Array.length_toList] at hj
    rw [← numAt_eq]; exact h2 j (by omega)
end
section
variable {X : Cx}
def rMinT (K : PySem.W.Frag) : List V → Hp → VK → Prop := fun vs H Q => ∃ (a : Addr) (ns : List Int), vs = [V.ref a] ∧ SqT K H a (ns.map V.int) ∧ 0 < ns.length ∧ ∀ m, m ∈ ns → (∀ y, y ∈ ns → m ≤ y) → Q (.int m) H
theorem tupOf {h : Heap} {a : Addr} {its : Array Value} (x : IsTup h a its) : h.IsTuple a its := by
  obtain ⟨o, ho, hc, n, hd⟩ := x
  exact ⟨o, ho, hc, n, hd⟩
theorem cr_minT (hc : X.calm = true) : CallR X (.builtin "min") (rMinT X.K) := by
  intro pins s σ H vs us Q I r h
  obtain ⟨a, ns, rfl, hs, hne, q⟩ := h
  obtain ⟨its, rv, hl, _⟩ := I.tuple hs
  rw [Vals.ref1 r]
  exact min_rawT (I.ok.hd hc) (tupOf hl) rv.ints hne fun h' tk m t' hk h1 h2 => ⟨.int _, H, I.kept hk, ⟨_, rfl⟩, q m h1 h2⟩
end
end TS
namespace TS
open PySem PySem.Spec PySem.Calls PyProof.Rows L2 SrtO
section
variable {prog : Program} {w : World} {A : Around} {E : Value → Shared → Prop} {s : Shared}
/-- a tuple is sorted: first what was collected (h1), then the new list behind it -/
theorem sorted_tupO {l : Addr} {vs : List Value} {ltv : Value → Value → Bool} {Q : Value → Shared → Prop} (O : Swo ltv) (hl : IsTup s.heap l vs.toArray) (hz : vs.length ≤ sizeLine)
    (hS : 2 ≤ vs.length → ∀ (h₁ : Heap) (a : Addr), h₁.get? a = some (seqObj "list" vs.toArray 0) → (∀ b o, s.heap.get? b = some o → b ≠ a ∧ h₁.get? b = some o) → SortableO prog w A.in1.in1 { s with heap := h₁ } a vs ltv)
    (h : ∀ (out : List Value) (h1 h2 : Heap) n, Srtd ltv out → Stb ltv out vs → (∀ b o, s.heap.get? b = some o → h1.get? b = some o) → (∀ b o, h1.get? b = some o → h2.get? b = some o) →
      h2.get? h1.objs.size = some { cls := .type "list", data := .seq out.toArray n } → Q (.ref h1.objs.size) { s with heap := h2 }) :
    wpAny (model prog w) A (call (.builtin "sorted") [.ref l]) Q E s := by
  obtain ⟨o, ho, hc, n, hd⟩ := id hl
  refine Calls.call_function_entry kind_sorted plain_sorted entry_sorted (args_sorted1 _) ?_
  unfold Builtin.«sorted»
  refine wpAny_bind (m := checkCount "sorted" 1 1 _) (wpAny_pure (wpAny_bind (wpAny_collect_seq l (.inr rfl) ho hc hd (fun h1 k1 => ?_) (by rw [List.size_toArray]; exact hz))))
  refine wpAny_bind (wpAny_newList ?_ hz)
  have at1 : (h1.push (seqObj "list" vs.toArray 0)).get? h1.objs.size = some (seqObj "list" vs.toArray 0) := Heap.get?_push_size _ rfl
  have kp : ∀ b o, h1.get? b = some o → b ≠ h1.objs.size ∧ (h1.push (seqObj "list" vs.toArray 0)).get? b = some o := fun b o q => ⟨Nat.ne_of_lt (Heap.lt_size q), Heap.get?_push_of_some _ q⟩
  refine wpAny_bind (wpAny_holding (wpAny_call_entry slot_list_sort ⟨_, at1, rfl⟩ entry_list_sort (list_sort_ord O at1 hz (fun h2 => hS h2 _ _ at1 fun b o q => kp b o (k1 b o q)) fun out hs hb => ⟨_, rfl, ?_⟩) (args_list_sort _)))
  obtain ⟨ep, he'⟩ := PyProof.Rows.sortedHeap_at (vs := vs) (out := out.toArray) at1
  refine wpAny_pure ⟨_, rfl, h out h1 _ ep hs hb k1 (fun b o q => ?_) he'⟩
  rw [PyProof.Rows.sortedHeap_old (kp b o q).1 (Heap.lt_size (kp b o q).2)]
  exact (kp b o q).2
end
/-- sorted(t), t a tuple of ints -/
def rSortT (K : PySem.W.Frag) : List V → Hp → VK → Prop := fun vs H Q => ∃ (a : Addr) (ns : List Int), vs = [V.ref a] ∧ SqT K H a (ns.map V.int) ∧
  ∀ (ks : List Int) (p : Addr), ks.Perm ns → ks.Pairwise (· ≤ ·) → H p = none → Q (.ref p) (upd H p (.lst (ks.map V.int)))
theorem cr_sortT {X : Cx} : CallR X (.builtin "sorted") (rSortT X.K) := by
  intro pins s σ H vs us Q I r h
  obtain ⟨a, ns, rfl, hs, q⟩ := h
  obtain ⟨its, rv, hl, hz⟩ := I.tuple hs
  rw [Vals.ref1 r]
  have hi := rv.ints
  refine sorted_tupO swo_int hl (by rw [← rv.length]; exact hz) (fun h2 h₁ a' _ _ => ints_sortable hi h2) fun out h1 h2 n o1 o2 k1 k2 hn => ?_
  obtain ⟨z1, z2, z3⟩ := ints_out hi o1 o2
  have I1 : Inv X pins σ H { s with heap := h1 } := I.kept (t' := s.toks) k1
  have hlen : ((out.map iv).map V.int).length ≤ sizeLine := by
    rw [List.length_map, z2.length_eq, ← List.length_map (f := V.int)]
    exact hz
  exact ⟨.ref _, _, I1.laid (t' := s.toks) (o := .lst ((out.map iv).map V.int)) k2 (Nat.le_refl _) ⟨hlen, out, n, vals_of_ints z1, hn⟩, rfl, q _ _ z2 z3 (I1.hok.fresh (Nat.le_refl _))⟩
/-! ### enumerate(a tuple) -/
theorem meets_enum1 {v : Value} {o : Obj} {H : Heap → Prop} (B : Begins v o H) :
    Meets (Builtin.«enumerate.__new__» ⟨[.type "enumerate", v], []⟩) (fun _ R s => H s.heap ∧
      R (.ok (.ret (.ref (s.heap.push o).objs.size))) { s with heap := (s.heap.push o).push { cls := .type "enumerate", data := .fields #[.none, .bool false, .ref s.heap.objs.size, rawInt 0, .none, .none] } }) :=
  .of_wp fun prog w A R s h => by
    obtain ⟨hp, g, d, tk, os⟩ := s; obtain ⟨h1, h⟩ := h
    have hsub := sub_enumerate
    have q1 : ∀ {A' : Around} {E : Value → Shared → Prop} {Q : Value → Shared → Prop}, Q (.ref hp.objs.size) ⟨hp.push o, g, d, tk, os⟩ → wpAny (model prog w) A' (pyIter v) Q E ⟨hp, g, d, tk, os⟩ :=
      fun q => B.iter prog w _ _ ⟨hp, g, d, tk, os⟩ _ h1 q
    wp_walk using q1
    refine wpAny_stack_any fun st => wpAny_pure ?_
    split
    · rename_i c _ _ _ _ _
      cases (c == Value.type "enumerate")
      · wp_walk using q1
        exact ⟨_, rfl, h⟩
      · wp_walk using q1
        exact ⟨_, rfl, h⟩
    · wp_walk using q1
      exact ⟨_, rfl, h⟩
end TS
namespace TS
open PySem PySem.Spec PySem.Calls PyProof.Rows L2
section
variable {prog : Program} {w : World} {A : Around} {E : Value → Shared → Prop} {s : Shared}
theorem enum_endT {e it t : Addr} {items : Array Value} {i : Nat} {c : Int} {old : Value} {Q : Option Value → Shared → Prop} (hh : A.handled = none)
    (he : IsEnum s.heap e it c old) (hit : s.heap.IsTupleIter it t i) (ht : s.heap.IsTuple t items) (hx : items[i]? = none)
    (hQ : ∀ h', Heap.ExtBut it s.heap h' → Q none { s with heap := h' }) : wpAny (model prog w) A (pyNext (.ref e)) Q E s := by
  have hT : s.TypeIs (.ref e) "enumerate" := ⟨_, he, rfl⟩
  unfold pyNext
  refine wpAny_bind (wpAny_attempt (wpAny_callSpecial?_slot (name := Str.ofString "__next__") hT F.slot_enumerate_next
    (wpAny_call_entry F.slot_enumerate_next hT F.entry_enumerate_next ?_ (F.args_enumerate_next_1 _))))
  show wpAny _ _ (field (.ref e) 2 >>= _) _ _ _
  refine wpAny_bind (wpAny_field he rfl (x := .ref it) rfl (wpAny_bind (wpAny_nextOf_tuple_end (A := A.in1) hh hit ht hx fun h' x hk hc => ?_)))
  obtain ⟨o, ho, hc⟩ := hc
  exact wpAny_bind (wpAny_isInstance (T := "StopIteration") (b := true) ⟨o, ho, hc⟩ isSubtype_stop (wpAny_pure (hQ _ hk)))
theorem enum_startT {t : Addr} {items : Array Value} {Q : Value → Shared → Prop} (hL : s.heap.IsTuple t items)
    (h : ∀ h', IsEnum h' (s.heap.objs.size + 1) s.heap.objs.size 0 .none → h'.IsTupleIter s.heap.objs.size t 0 → (∀ b o, s.heap.get? b = some o → h'.get? b = some o) → Q (.ref (s.heap.objs.size + 1)) { s with heap := h' }) :
    wpAny (model prog w) A (call (.type "enumerate") [.ref t]) Q E s := by
  refine callType_new F.called_enumerate (by decide) (F.typeCall_enumerate_1 _) (F.newCall_enumerate_1 _) (fun obj => F.args_object_init_2 obj _) F.entry_enumerate_new (meets_enum1 (begins_tuple t items)) ⟨hL, ?_⟩
  have hz : (s.heap.push { cls := .type "tuple_iterator", data := .fields #[.ref t, .int 0 0] }).objs.size = s.heap.objs.size + 1 := Heap.size_push ..
  show _ ∧ _
  rw [hz]
  have he : IsEnum ((s.heap.push { cls := .type "tuple_iterator", data := .fields #[.ref t, .int 0 0] }).push { cls := .type "enumerate", data := .fields #[.none, .bool false, .ref s.heap.objs.size, rawInt 0, .none, .none] }) (s.heap.objs.size + 1) s.heap.objs.size 0 .none := by
    have q := Heap.get?_push_size (s.heap.push { cls := .type "tuple_iterator", data := .fields #[.ref t, .int 0 0] }) (o := { cls := .type "enumerate", data := .fields #[.none, .bool false, .ref s.heap.objs.size, rawInt 0, .none, .none] }) rfl
    rw [hz] at q; exact q
  exact ⟨⟨_, he, rfl⟩, h _ he ⟨_, Heap.get?_push_of_some _ (Heap.get?_push_size _ rfl), rfl, rfl⟩ fun b o x => Heap.get?_push_of_some _ (Heap.get?_push_of_some _ x)⟩
end
def IteT (K : PySem.W.Frag) (a : Addr) : It :=
  ⟨fun i H => ∃ (xs : List V) (x : V), SqT K H a xs ∧ xs[i]? = some x, fun i H v H' => ∃ T x, v = .ref T ∧ H T = none ∧ H' = upd H T (.tup [.int (i : Nat), x]) ∧ ∀ xs, SqT K H a xs → xs[i]? = some x, fun i H => ∃ xs : List V, SqT K H a xs ∧ xs.length ≤ i⟩
theorem tup_off {h : Heap} {a b : Addr} {its : Array Value} {o : Obj} (p : IsTup h a its) (e : h.get? b = some o) (n : o.cls ≠ .type "tuple") : b ≠ a := fun z => by
  obtain ⟨o', ho, hc, _⟩ := p
  rw [z, ho] at e
  cases e
  exact n hc
theorem turn_enumT {P : Program} {w : World} {K : PySem.W.Frag} {elts : List Expr} {kk : Nat} {tpos : Pos} (a e it : Addr) :
    Turn P w K (.Tuple elts kk tpos) (IteT K a) [e, it] e (fun i h => (∃ old, IsEnum h e it ((i : Nat) : Int) old) ∧ h.IsTupleIter it a i ∧ e ≠ it) where
  mem := List.mem_cons_self
  obj := fun i h st b hb => by
    obtain ⟨⟨old, he⟩, ⟨o, ho, hc, hd⟩, _⟩ := st
    rcases List.mem_cons.mp hb with z | z
    · subst z; exact ⟨_, he, fun v q => nomatch q⟩
    · cases List.mem_singleton.mp z; exact ⟨o, ho, fun v q => (by rw [hd] at q; cases q)⟩
  keep := fun i h h' st k => by
    obtain ⟨⟨old, he⟩, hi, hne⟩ := st
    exact ⟨⟨old, k e (by simp) _ he⟩, hi.at fun o q => k it (by simp) o q, hne⟩
  item := by
    intro X hP hw hK hc i pins s σ H E I hf st hg
    subst hP hw hK
    obtain ⟨⟨old, he⟩, hit, hne⟩ := st
    obtain ⟨xs, x, hq, hx⟩ := hg
    obtain ⟨its, rv, p, hz⟩ := I.tuple hq
    obtain ⟨u, hu, ru⟩ := rv.get hx
    have hel : e < s.heap.objs.size := Heap.lt_size he
    obtain ⟨oi, hoi, hci, hdi⟩ := id hit
    have hil : it < s.heap.objs.size := Heap.lt_size hoi
    have nit : it ≠ a := tup_off p hoi (by rw [hci]; decide)
    have ne : e ≠ a := tup_off p he (fun z => by injection z with z; exact absurd z (by decide))
    have D := Draws.tuple (prog := X.prog) (w := X.w) (A := X.A.in1) (I.ok.hd hc) it a (Ne.symm nit) its.toArray
    have hlt : i < its.toArray.size := by rw [List.size_toArray]; exact (List.getElem?_eq_some_iff.mp hu).1
    refine wpAny_pyNext_enum_itemC D he ⟨hit, tupOf p⟩ hlt hne (by simp [hne, ne]) fun y h1 tk hy ho st1 hT hsz hk => ?_
    have hy' : its[i]? = some y := by simpa using hy
    rw [hu] at hy'
    cases hy'
    refine ⟨_, rfl, wpAny_letOwnedTupleGo_enum (s := { s with heap := h1, toks := tk + 1 }) ho fun h2 he2 sb => ?_⟩
    have hT2 : h2.get? s.heap.objs.size = some { cls := .type "tuple", data := .seq #[.int i tk, u] } := (sb.2 _ (Nat.ne_of_gt hel)).trans hT
    have new : ObjOk X.prog X.w (upd H s.heap.objs.size (.tup [.int (i : Nat), x])) h2 s.heap.objs.size (.tup [.int (i : Nat), x]) :=
      ⟨Nat.le_of_ble_eq_true rfl, [.int i tk, u], .cons ⟨_, rfl⟩ (.cons ru .nil), ⟨_, hT2, rfl, _, rfl⟩⟩
    have I1 : Inv X pins σ (upd H s.heap.objs.size (.tup [.int (i : Nat), x])) { s with heap := h2, toks := tk + 1 } :=
      I.turnedNew (ch := [e, it]) (fun b ob hb q => (sb.2 b (fun z => hb (by rw [z]; simp))).trans (hk b ob (fun z => hb (by rw [z]; simp)) (fun z => hb (by rw [z]; simp)) q)) hf (Nat.le_refl _) new
    refine ⟨.ref s.heap.objs.size, _, I1, rfl, ⟨_, x, rfl, I.hok.fresh (Nat.le_refl _), rfl, fun ys hy => ?_⟩, ⟨⟨u, ?_⟩, st1.1.at fun o q => (sb.2 it (Ne.symm hne)).trans q, hne⟩, fun b hb => ?_⟩
    · rw [I.tuple_inj hy hq]; exact hx
    · have e1 : ((i + 1 : Nat) : Int) = (i : Int) + 1 := by omega
      rw [e1]; exact he2
    · have hb' : b < s.heap.objs.size := by
        rcases List.mem_cons.mp hb with z | z
        · rw [z]; exact hel
        · rw [List.mem_singleton.mp z]; exact hil
      rw [upd_ne (Nat.ne_of_lt hb')]
      exact (hf b hb).1
  done := by
    intro X hP hw hK hc i pins s σ H E I hf st hg
    subst hP hw hK
    obtain ⟨⟨old, he⟩, hit, hne⟩ := st
    obtain ⟨xs, hq, hx⟩ := hg
    obtain ⟨its, rv, p, hz⟩ := I.tuple hq
    obtain ⟨f0, f1, f2, f3, f4, f5⟩ := hf it (by simp)
    obtain ⟨oi, hoi, hci, hdi⟩ := id hit
    have nit : it ≠ a := tup_off p hoi (by rw [hci]; decide)
    have hl := rv.length
    have hT : s.TypeIs (.ref e) "enumerate" := ⟨_, he, rfl⟩
    have hh := I.ok.hd hc
    exact enum_endT hh he hit (tupOf p) (by rw [List.getElem?_toArray, List.getElem?_eq_none_iff]; omega) fun h' eb => ⟨rfl, I.turned (t' := s.toks) (fun b o hb q => eb b o hb q) f0 f1 f3 f4 f5⟩
  self := fun A i s Q E st h => let ⟨⟨_, he⟩, _⟩ := st; wpAny_pyIter_enum he h
/-- enumerate(xs), a list or a tuple -/
def iEnumA (K : PySem.W.Frag) (ta : TA) : TI := fun σ H R => ta σ H fun vs H1 => (∃ a xs, vs = [.ref a] ∧ SqL K H1 a xs ∧ R (Ite K a) H1) ∨ ∃ a xs, vs = [.ref a] ∧ SqT K H1 a xs ∧ R (IteT K a) H1
theorem pi_enumA {X : Cx} {e : Expr} {ta : TA} {p pos tpos : Pos} {elts : List Expr} {kk : Nat} (hg : Gl X "enumerate") (hm : X.mg "enumerate" = none) (ha : PA X [e] ta) (hs : starEach [e] X.env = [(false, eval e X.env)] := by rfl) :
    PI X (.Tuple elts kk tpos) (.Call (.Name "enumerate" p) [e] [] pos) (iEnumA X.K ta) := by
  refine ⟨fun pins s σ H R I h => ?_⟩
  refine Call_ (ld_blt I hg hm boot_enumerate (PyProof.Rows.callWith_type1 (thn (ha.run pos pins s σ H _ I h) fun us s1 ⟨vs, H1, I1, r1, q1⟩ => ?_) hs rfl))
  rcases q1 with ⟨a, xs, rfl, hq, q⟩ | ⟨a, xs, rfl, hq, q⟩
  · rw [Vals.ref1 r1]
    obtain ⟨its, rv, p', hz⟩ := I1.list hq
    refine call_enumerate_list p'.isList fun h' he hit hsz hk => wpAny_pyIter_enum he ?_
    have I2 : Inv X pins σ H1 { s1 with heap := h' } := I1.kept (t' := s1.toks) hk
    refine ⟨s1.heap.objs.size + 1, [s1.heap.objs.size + 1, s1.heap.objs.size], _, _, H1, rfl, I2, turn_enum a (s1.heap.objs.size + 1) s1.heap.objs.size, ⟨⟨.none, he⟩, hit, Nat.succ_ne_self _⟩, fun b hb => ?_, q⟩
    have hle : s1.heap.objs.size ≤ b := by
      rcases List.mem_cons.mp hb with z | z
      · rw [z]; exact Nat.le_add_right _ _
      · rw [List.mem_singleton.mp z]; exact Nat.le_refl _
    exact I1.fpOk hle (I1.hok.fresh hle)
  · rw [Vals.ref1 r1]
    obtain ⟨its, rv, p', hz⟩ := I1.tuple hq
    refine enum_startT (tupOf p') fun h' he hit hk => wpAny_pyIter_enum he ?_
    have I2 : Inv X pins σ H1 { s1 with heap := h' } := I1.kept (t' := s1.toks) hk
    refine ⟨s1.heap.objs.size + 1, [s1.heap.objs.size + 1, s1.heap.objs.size], _, _, H1, rfl, I2, turn_enumT a (s1.heap.objs.size + 1) s1.heap.objs.size, ⟨⟨.none, he⟩, hit, Nat.succ_ne_self _⟩, fun b hb => ?_, q⟩
    have hle : s1.heap.objs.size ≤ b := by
      rcases List.mem_cons.mp hb with z | z
      · rw [z]; exact Nat.le_add_right _ _
      · rw [List.mem_singleton.mp z]; exact Nat.le_refl _
    exact I1.fpOk hle (I1.hok.fresh hle)
end TS
end

section
set_option Elab.async false
set_option linter.all false
set_option maxRecDepth 100000
set_option autoImplicit false
set_option maxHeartbeats 2000000
/-! Operators, calls, subscripts on data. -/
namespace Zk
open PySem L2 PyProof.Rows
open Evl (Ex)

/-! ### what the machine's rules are joined to -/
def CMulX (i j : Int) : Prop := i.natAbs.log2 + j.natAbs.log2 < 100000000
theorem CMulX.ok {i j : Int} (h : CMulX i j) : IntMulOk i j := by
  have b : ∀ x : Int, Builtin.Int.intBits x ≤ x.natAbs.log2 + 1 := fun x => by
    unfold Builtin.Int.intBits
    split <;> omega
  have h1 := b i
  have h2 := b j
  have h3 : i.natAbs.log2 + j.natAbs.log2 < 100000000 := h
  have e : bitsLine = 134217728 := by decide
  unfold IntMulOk
  intro z
  rw [Bool.and_eq_true] at z
  have z2 := z.2
  unfold Builtin.Int.intTooBig at z2
  have z3 := of_decide_eq_true z2
  rw [e] at z3
  omega
section
variable {X : Cx}
theorem op_mulX : OpR X (binaryOp .Mult) (rI CMulX fun i j => .int (i * j)) := opI fun _ _ _ _ _ _ _ hc q => mul_int q hc.ok
def rAddA : R2 := fun x y H Q => rI0 (fun i j => .int (i + j)) x y H Q ∨ (∃ i j, x = .str i ∧ y = .str j ∧ i.length + j.length ≤ sizeLine ∧ Q (.str (i ++ j)) H) ∨ rCat x y H Q
theorem op_addA : OpR X (binaryOp .Add) rAddA := op_add.or (op_add_str.or op_cat)
def rMulA : R2 := fun x y H Q => rI CMulX (fun i j => .int (i * j)) x y H Q ∨ rRep x y H Q
theorem op_mulA : OpR X (binaryOp .Mult) rMulA := op_mulX.or op_rep
def rLenA (K : PySem.W.Frag) : List V → Hp → VK → Prop := fun xs H Q => (∃ p ys, xs = [.ref p] ∧ (SqL K H p ys ∨ SqT K H p ys) ∧ Q (.int ys.length) H) ∨ ∃ z, xs = [.str z] ∧ z.length ≤ sizeLine ∧ Q (.int z.length) H
theorem call_lenA : CallR X (.builtin "len") (rLenA X.K) := call_len_seq.or call_len_str
def rMinA (K : PySem.W.Frag) : List V → Hp → VK → Prop := fun xs H Q => (rMin K xs H Q ∨ (∃ i j, xs = [.int i, .int j] ∧ Q (.int (if j < i then j else i)) H)) ∨ TS.rMinT K xs H Q
theorem call_minA (hc : X.calm = true) : CallR X (.builtin "min") (rMinA X.K) := ((cr_min hc).or (call_min2 hc)).or (TS.cr_minT hc)
def rSortedA (K : PySem.W.Frag) : List V → Hp → VK → Prop := fun xs H Q => rSortedI K xs H Q ∨ TS.rSortT K xs H Q
theorem call_sortedA : CallR X (.builtin "sorted") (rSortedA X.K) := cr_sortedI.or TS.cr_sortT
def rMaxA (K : PySem.W.Frag) : List V → Hp → VK → Prop := fun xs H Q => rMax K xs H Q ∨ (∃ i j, xs = [.int i, .int j] ∧ Q (.int (if j > i then j else i)) H)
theorem call_maxA (hc : X.calm = true) : CallR X (.builtin "max") (rMaxA X.K) := (cr_max hc).or (call_max2 hc)
end

/-! ### the same on data -/
def addD : D → D → Option D
  | .int i, .int j => some (.int (i + j))
  | .str a, .str b => if a.length + b.length ≤ 100000 then some (.str (a ++ b)) else none
  | .lst a, .lst b => if a.length + b.length ≤ 100000 then some (.lst (a ++ b)) else none
  | _, _ => none
def subD : D → D → Option D
  | .int i, .int j => some (.int (i - j))
  | _, _ => none
def mulD : D → D → Option D
  | .int i, .int j => if i.natAbs.log2 + j.natAbs.log2 < 100000000 then some (.int (i * j)) else none
  | .lst a, .int k => if k ≤ 100000 ∧ -100000 ≤ k ∧ a.length * k.toNat ≤ 100000 then some (.lst (List.replicate k.toNat a).flatten) else none
  | _, _ => none
def fdivD : D → D → Option D
  | .int i, .int j => if 0 < j ∧ j.natAbs.log2 < 9000 then some (.int (i / j)) else none
  | _, _ => none
def modD : D → D → Option D
  | .int i, .int j => if 0 < j then some (.int (i % j)) else none
  | _, _ => none
def powD : D → D → Option D
  | .int i, .int j => if 0 ≤ j ∧ j ≤ 1000000 ∧ i.natAbs < 2 ^ 64 then some (.int (i ^ j.toNat)) else none
  | _, _ => none
def ltD : D → D → Option D
  | .int i, .int j => some (.bl (decide (i < j)))
  | _, _ => none
def leD : D → D → Option D
  | .int i, .int j => some (.bl (decide (i ≤ j)))
  | _, _ => none
def gtD : D → D → Option D
  | .int i, .int j => some (.bl (decide (j < i)))
  | _, _ => none
def geD : D → D → Option D
  | .int i, .int j => some (.bl (decide (j ≤ i)))
  | _, _ => none

section
variable {K : PySem.W.Frag}
theorem rr_fin {O : Addr → Prop} {H : Hp} {Q : VK} {v : V} {d : D} (q : ∀ w H', Ex H H' → Rp K O H' w d → Q w H') (r : Rp K O H v d) : Q v H := q v H (Evl.Ex.refl H) r
theorem rr_newL {O : Addr → Prop} {H : Hp} {Q : VK} {vs : List V} {ds : List D} (o : ∀ a, O a → Lv H a) (q : ∀ w H', Ex H H' → Rp K O H' w (.lst ds) → Q w H') (r : RpA K O H vs ds) : ∀ p, H p = none → Q (.ref p) (upd H p (.lst vs)) := fun p hp =>
  q _ _ (Evl.Ex.new hp) (.lst (new_not o hp) upd_same (r.ex (Evl.Ex.new hp)))
theorem rr_newT {O : Addr → Prop} {H : Hp} {Q : VK} {vs : List V} {ds : List D} (o : ∀ a, O a → Lv H a) (q : ∀ w H', Ex H H' → Rp K O H' w (.tup ds) → Q w H') (r : RpA K O H vs ds) : ∀ p, H p = none → Q (.ref p) (upd H p (.tup vs)) := fun p hp =>
  q _ _ (Evl.Ex.new hp) (.tup (new_not o hp) upd_same (r.ex (Evl.Ex.new hp)))
theorem rr_add : RR K rAddA addD := fun x y d h O H v u o rx ry Q q => by
  unfold addD at h
  split at h
  · cases h; cases rx; cases ry
    exact .inl ⟨_, _, rfl, rfl, rr_fin q (.int _)⟩
  · split at h
    · rename_i hl
      cases h; cases rx; cases ry
      exact .inr (.inl ⟨_, _, rfl, rfl, Evl.sz_of hl, rr_fin q (.str _)⟩)
    · cases h
  · split at h
    · rename_i hl
      cases h
      cases rx with
      | lst n e r =>
        cases ry with
        | lst n' e' r' => exact .inr (.inr ⟨_, _, _, _, rfl, rfl, e, e', by rw [r.len, r'.len]; exact Evl.sz_of hl, rr_newL o q (r.app r')⟩)
    · cases h
  · cases h
theorem rr_ii {f : D → D → Option D} {g : Int → Int → V} (gd : Int → Int → D) (hf : ∀ x y d, f x y = some d → ∃ i j, x = .int i ∧ y = .int j ∧ d = gd i j) (hg : ∀ (i j : Int) (O : Addr → Prop) (H : Hp), Rp K O H (g i j) (gd i j)) : RR K (rI0 g) f := fun x y d h O H v u o rx ry Q q => by
  obtain ⟨i, j, rfl, rfl, rfl⟩ := hf x y d h
  cases rx; cases ry
  exact ⟨i, j, rfl, rfl, rr_fin q (hg i j O H)⟩
theorem rr_iic {C : Int → Int → Prop} {f : D → D → Option D} {g : Int → Int → V} (gd : Int → Int → D) (hf : ∀ x y d, f x y = some d → ∃ i j, x = .int i ∧ y = .int j ∧ C i j ∧ d = gd i j) (hg : ∀ (i j : Int) (O : Addr → Prop) (H : Hp), Rp K O H (g i j) (gd i j)) : RR K (rI C g) f := fun x y d h O H v u o rx ry Q q => by
  obtain ⟨i, j, rfl, rfl, hc, rfl⟩ := hf x y d h
  cases rx; cases ry
  exact ⟨i, j, rfl, rfl, hc, rr_fin q (hg i j O H)⟩
theorem rr_sub : RR K (rI0 fun i j => .int (i - j)) subD := rr_ii (fun i j => .int (i - j)) (fun x y d h => by unfold subD at h; split at h <;> first | (cases h; exact ⟨_, _, rfl, rfl, rfl⟩) | cases h) fun i j O H => .int _
theorem rr_lt : RR K (rI0 fun i j => .bl (decide (i < j))) ltD := rr_ii (fun i j => .bl (decide (i < j))) (fun x y d h => by unfold ltD at h; split at h <;> first | (cases h; exact ⟨_, _, rfl, rfl, rfl⟩) | cases h) fun i j O H => .bl _
theorem rr_le : RR K (rI0 fun i j => .bl (decide (i ≤ j))) leD := rr_ii (fun i j => .bl (decide (i ≤ j))) (fun x y d h => by unfold leD at h; split at h <;> first | (cases h; exact ⟨_, _, rfl, rfl, rfl⟩) | cases h) fun i j O H => .bl _
theorem rr_gt : RR K (rI0 fun i j => .bl (decide (j < i))) gtD := rr_ii (fun i j => .bl (decide (j < i))) (fun x y d h => by unfold gtD at h; split at h <;> first | (cases h; exact ⟨_, _, rfl, rfl, rfl⟩) | cases h) fun i j O H => .bl _
theorem rr_ge : RR K (rI0 fun i j => .bl (decide (j ≤ i))) geD := rr_ii (fun i j => .bl (decide (j ≤ i))) (fun x y d h => by unfold geD at h; split at h <;> first | (cases h; exact ⟨_, _, rfl, rfl, rfl⟩) | cases h) fun i j O H => .bl _
theorem rr_fdiv : RR K (rI CDivW fun i j => .int (i / j)) fdivD := rr_iic (fun i j => .int (i / j)) (fun x y d h => by
  unfold fdivD at h
  split at h
  · split at h
    · rename_i hc
      cases h; exact ⟨_, _, rfl, rfl, hc, rfl⟩
    · cases h
  · cases h) fun i j O H => .int _
theorem rr_mod : RR K (rI (fun _ j => 0 < j) fun i j => .int (i % j)) modD := rr_iic (fun i j => .int (i % j)) (fun x y d h => by
  unfold modD at h
  split at h
  · split at h
    · rename_i hc
      cases h; exact ⟨_, _, rfl, rfl, hc, rfl⟩
    · cases h
  · cases h) fun i j O H => .int _
theorem rr_pow : RR K (rI CPow fun i j => .int (i ^ j.toNat)) powD := rr_iic (fun i j => .int (i ^ j.toNat)) (fun x y d h => by
  unfold powD at h
  split at h
  · split at h
    · rename_i hc
      cases h; exact ⟨_, _, rfl, rfl, hc, rfl⟩
    · cases h
  · cases h) fun i j O H => .int _
theorem RpA.rep {O : Addr → Prop} {H : Hp} {vs : List V} {ds : List D} (r : RpA K O H vs ds) : ∀ k : Nat, RpA K O H (List.replicate k vs).flatten (List.replicate k ds).flatten
  | 0 => .nil
  | k + 1 => by
    rw [List.replicate_succ, List.replicate_succ, List.flatten_cons, List.flatten_cons]
    exact r.app (RpA.rep r k)
theorem rr_mul : RR K rMulA mulD := fun x y d h O H v u o rx ry Q q => by
  unfold mulD at h
  split at h
  · split at h
    · rename_i hc
      cases h; cases rx; cases ry
      exact .inl ⟨_, _, rfl, rfl, hc, rr_fin q (.int _)⟩
    · cases h
  · split at h
    · rename_i hc
      cases h
      cases rx with
      | lst n e r =>
        cases ry
        obtain ⟨h1, h2, h3⟩ := hc
        exact .inr ⟨_, _, _, rfl, rfl, e, by omega, by omega, by rw [r.len]; exact Evl.sz_of h3, rr_newL o q (r.rep _)⟩
    · cases h
  · cases h
end
end Zk
end

section
set_option Elab.async false
set_option linter.all false
set_option maxRecDepth 100000
set_option maxHeartbeats 4000000
/-! list(reversed(a list)) -/
namespace RT
open PySem PySem.Spec PySem.Calls PyProof.Rows L2
section
variable {prog : Program} {w : World} {A : Around} {E : Value → Shared → Prop} {s : Shared}
theorem list_init_rev {R : Result → Shared → Prop} {it l : Addr} {items : Array Value} (hh : A.handled = none) (hit : s.heap.IsRevIter it l ((items.size : Int) - 1)) (hl : s.heap.IsList l items) (hne : l ≠ it) (hn : items.size ≤ sizeLine)
    (S : Addr) (hS : s.heap.get? S = some { cls := .type "list", data := .seq #[] }) (hSi : S ≠ it) (hSl : S ≠ l)
    (hR : ∀ h' tk acc' c', (∀ b o, b ≠ S → b ≠ it → s.heap.get? b = some o → h'.get? b = some o) → h'.get? S = some { cls := .type "list", dict := none, data := .seq acc' c', slots := #[] } →
      ItemsOf (fun i v => items[items.size - 1 - i]? = some v) acc' items.size → R (.ok (.ret .none)) { s with heap := h', toks := tk }) :
    wpAny (model prog w) A.in1 (Builtin.«list.__init__» ⟨[.ref S, .ref it], []⟩)
      (fun fin s' => match fin with | .done f => R (.ok f) s' | .again c' => c'.quiet = true ∧ codeAny (model prog w) A c' R s') (fun e s' => R (.error e) s') s := by
  have W := (Walks.listRev (prog := prog) (w := w) (A := A.in1) hh it l hne items).toS
  have hSf : S ∉ [it, l] := by simp only [List.mem_cons, List.not_mem_nil, or_false, not_or]; exact ⟨hSi, hSl⟩
  show wpAny _ _ (do let old ← Builtin.List.listItems (.ref S); Builtin.List.listUpdate (.ref S) (fun _ => #[]); letGo old.toList.reverse; Builtin.List.listExtendWith (.ref S) (.ref it) .none) _ _ s
  refine wpAny_bind ?_
  unfold Builtin.List.listItems
  refine wpAny_bind (wpAny_seqItems hS rfl (wpAny_pure ?_))
  show wpAny _ _ (updateSeq S (fun _ => #[]) >>= fun _ => letGo (#[] : Array Value).toList.reverse >>= fun _ => Builtin.List.listExtendWith (.ref S) (.ref it) .none) _ _ s
  refine wpAny_bind (wpAny_updateSeq hS rfl ?_)
  have hS1 := Heap.get?_update_self (Obj.mapSeq (fun _ => (#[] : Array Value))) hS rfl
  have oth : ∀ b o, b ≠ S → s.heap.get? b = some o → (s.heap.update S (Obj.mapSeq (fun _ => (#[] : Array Value)))).get? b = some o :=
    fun b o hb e => (Heap.get?_update_other _ _ (Ne.symm hb)).trans e
  refine wpAny_bind (wpAny_letGo ?_)
  have hit1 : (s.heap.update S (Obj.mapSeq (fun _ => (#[] : Array Value)))).IsRevIter it l ((items.size : Int) - 1) := hit.at fun o e => oth it o (Ne.symm hSi) e
  have hl1 : (s.heap.update S (Obj.mapSeq (fun _ => (#[] : Array Value)))).IsList l items := hl.at fun o e => oth l o (Ne.symm hSl) e
  have hT : ({ s with heap := s.heap.update S (Obj.mapSeq (fun _ => (#[] : Array Value))) } : Shared).TypeIs (.ref it) "list_reverseiterator" := Heap.IsRevIter.typeIs (s := { s with heap := s.heap.update S (Obj.mapSeq (fun _ => (#[] : Array Value))) }) hit1
  have h1 : Builtin.List.listSameRef (.ref S) (.ref it) = false := by simp [Builtin.List.listSameRef, hSi]
  unfold Builtin.List.listExtendWith
  refine wpAny_bind (wpAny_typeOf hT ?_)
  rw [if_neg (by rw [h1]; decide)]
  refine wpAny_bind (wpAny_pyIter_revIter (s := { s with heap := s.heap.update S (Obj.mapSeq (fun _ => (#[] : Array Value))) }) hit1 ?_)
  refine wpAny_bind (wpAny_holding ?_)
  unfold Builtin.List.listLengthHint
  refine wpAny_bind (wpAny_specialOf hT nolen_lri ?_)
  show wpAny _ A.in1 (specialOf (Value.ref it) (Str.ofString "__length_hint__") >>= _) _ _ _
  refine wpAny_bind (wpAny_specialOf hT hint_lri ?_)
  generalize hid : ("list_reverseiterator.__length_hint__" : String) = id0
  wp_delta
  rw [show splitId id0 = some ("list_reverseiterator", "__length_hint__") from by subst hid; decide +kernel]
  subst hid
  refine wpAny_bind (wpAny_isInstance (b := true) hT (by rw [isSubtype_type]; kernel_rfl) ?_)
  refine wpAny_pure ?_
  rw [if_neg (by decide)]
  have e0 : ((items.size : Nat) : Int) - 1 - ((0 : Nat) : Int) = (items.size : Int) - 1 := by omega
  refine wpAny_pure ⟨plainId_quiet F.plain_extend_loop _, codeAny_extend_loopS W hn _ hSf _ items.size 0 _ _ _ rfl (Nat.zero_le _) ⟨Nat.zero_le _, by rw [e0]; exact hit1, hl1⟩ hS1 (ItemsOf.nil _) fun s' acc' c' hm hS' hacc => ?_⟩
  rw [Moved.eq_with hm]
  refine hR s'.heap s'.toks acc' c' (fun b o hb hb2 e => hm.heap b o (fun hmem => ?_) (oth b o hb e)) hS' hacc
  rcases List.mem_cons.mp hmem with e' | hmem
  · exact hb e'
  · exact hb2 (List.mem_singleton.mp hmem)
theorem call_list_rev {it l : Addr} {items : Array Value} {Q : Value → Shared → Prop} (hh : A.handled = none) (hit : s.heap.IsRevIter it l ((items.size : Int) - 1)) (hl : s.heap.IsList l items) (hne : l ≠ it) (hn : items.size ≤ sizeLine)
    (hQ : ∀ h' tk acc' c', (∀ b o, b ≠ it → s.heap.get? b = some o → h'.get? b = some o) → h'.get? s.heap.objs.size = some { cls := .type "list", dict := none, data := .seq acc' c', slots := #[] } →
      ItemsOf (fun i v => items[items.size - 1 - i]? = some v) acc' items.size → Q (.ref s.heap.objs.size) { s with heap := h', toks := tk }) :
    wpAny (model prog w) A (call (.type "list") [.ref it]) Q E s := by
  obtain ⟨oi, hoi, _⟩ := id hit
  obtain ⟨ol, hol, _⟩ := id hl
  refine callType_codes (Q₁ := fun obj s₁ => obj = .ref s.heap.objs.size ∧ s₁ = { s with heap := s.heap.push { cls := .type "list", data := .seq #[] } }) F.called_list (F.typeCall_list_1 _) F.entry_list_init
    (code_list_new _ ⟨rfl, rfl⟩) fun obj s₁ h₁ => ?_
  obtain ⟨rfl, rfl⟩ := h₁
  have hS : (s.heap.push { cls := .type "list", data := .seq #[] }).get? s.heap.objs.size = some { cls := .type "list", data := .seq #[] } := Heap.get?_push_size _ rfl
  refine ⟨⟨_, hS, rfl⟩, F.args_list_init_2 _ _, list_init_rev (A := A.in1) hh (hit.at fun o e => Heap.get?_push_of_some _ e) (hl.push _) hne hn _ hS (Nat.ne_of_gt (Heap.lt_size hoi)) (Nat.ne_of_gt (Heap.lt_size hol)) fun h' tk acc' c' hk hS' hacc => ?_⟩
  exact ⟨rfl, hQ h' tk acc' c' (fun b o hb e => hk b o (Nat.ne_of_lt (Heap.lt_size e)) hb (Heap.get?_push_of_some _ e)) hS' hacc⟩
end
section
variable {X : Cx}
/-- list(reversed(xs)), xs a list -/
def tListRev (K : PySem.W.Frag) (te : TE) : TE := fun σ H Q => te σ H fun v H1 => ∃ (a : Addr) (xs : List V), v = .ref a ∧ SqL K H1 a xs ∧ ∀ q, H1 q = none → Q (.ref q) (upd H1 q (.lst xs.reverse))
theorem pe_listRev {e : Expr} {te : TE} {p p2 pos pos2 : Pos} (hc : X.calm = true) (hg : Gl X "list") (hm : X.mg "list" = none) (hg2 : Gl X "reversed") (hm2 : X.mg "reversed" = none) (he : PE X e te)
    (hs : starEach [e] X.env = (false, eval e X.env) :: starEach [] X.env := by rfl)
    (hs2 : starEach [.Call (.Name "reversed" p2) [e] [] pos2] X.env = (false, eval (.Call (.Name "reversed" p2) [e] [] pos2) X.env) :: starEach [] X.env := by rfl) :
    PE X (.Call (.Name "list" p) [.Call (.Name "reversed" p2) [e] [] pos2] [] pos) (tListRev X.K te) := by
  refine ⟨fun pins s σ H Q I h => ?_⟩
  refine Call_ (ld_blt I hg hm boot_list (PyProof.Rows.callWith_type1 (args_cons (Call_ (ld_blt I hg2 hm2 PyProof.Rows.boot_reversed (PyProof.Rows.callWith_type1 (args_cons (thn (he.run pins s σ H _ I h) fun u s1 ⟨v, H1, I1, r1, q1⟩ => args_nil ?_) hs) hs rfl))) hs2) hs2 rfl))
  obtain ⟨a, xs, ev, hq, q⟩ := q1
  subst ev
  obtain rfl : u = Value.ref a := r1
  obtain ⟨its, rv, p', hz⟩ := I1.list hq
  refine call_reversed_list p'.isList (args_nil ?_)
  have k0 : ∀ b o, s1.heap.get? b = some o → (s1.heap.push (revObj a ((its.toArray.size : Int) - 1))).get? b = some o := fun b o e => Heap.get?_push_of_some _ e
  have I2 : Inv X pins σ H1 { s1 with heap := s1.heap.push (revObj a ((its.toArray.size : Int) - 1)) } := I1.kept (t' := s1.toks) k0
  obtain ⟨f0, f1, f2, f3, f4, f5⟩ := I1.fpOk (H' := H1) (b := s1.heap.objs.size) (Nat.le_refl _) (I1.hok.fresh (Nat.le_refl _))
  have hl := p'.isList
  obtain ⟨ol, hol, _⟩ := id hl
  have hne : a ≠ s1.heap.objs.size := Nat.ne_of_lt (Heap.lt_size hol)
  have hn : its.toArray.size ≤ sizeLine := by rw [List.size_toArray, ← rv.length]; exact hz
  have hsz : (s1.heap.push (revObj a ((its.toArray.size : Int) - 1))).objs.size = s1.heap.objs.size + 1 := by simp [Heap.push]
  refine call_list_rev (s := { s1 with heap := s1.heap.push (revObj a ((its.toArray.size : Int) - 1)) }) (I1.ok.hd hc) ⟨_, Heap.get?_push_size _ rfl, rfl, rfl⟩ (hl.push _) hne hn fun h' tk acc c' hk hS hi => ?_
  have kk : ∀ b o, s1.heap.get? b = some o → h'.get? b = some o := fun b o e => hk b o (Nat.ne_of_lt (Heap.lt_size e)) (k0 b o e)
  have hp : s1.heap.objs.size ≤ (s1.heap.push (revObj a ((its.toArray.size : Int) - 1))).objs.size := by rw [hsz]; exact Nat.le_succ _
  refine ⟨.ref _, _, I1.laid (t' := tk) (o := .lst xs.reverse) kk hp (show ObjOk X.prog X.w _ _ _ (.lst xs.reverse) from ⟨by rw [List.length_reverse]; exact hz, acc.toList, c', vals_rev rv hi, ?_⟩), rfl, q _ (I1.hok.fresh hp)⟩
  rw [Array.toArray_toList]
  exact hS
end
end RT
end

section
set_option Elab.async false
set_option linter.all false
set_option maxRecDepth 100000
set_option autoImplicit false
set_option maxHeartbeats 2000000
/-! Comparisons, subscripts, built-in calls on data. -/
namespace Zk
open PySem L2 PyProof.Rows
open Evl (Ex)

/-! ### ==, != at any depth -/
mutual
def toP : D → Option PyData
  | .non => some .none
  | .bl b => some (.bool b)
  | .int i => some (.int i)
  | .str s => some (.str s)
  | .lst ds => (toPs ds).map .list
  | .tup ds => (toPs ds).map .tuple
  | _ => none
def toPs : List D → Option (List PyData)
  | [] => some []
  | d :: ds => (toP d).bind fun p => (toPs ds).map (p :: ·)
end
section
variable {K : PySem.W.Frag} {O : Addr → Prop} {H : Hp}
mutual
theorem dp_of : ∀ {d : D} {v : V} {p : PyData}, Rp K O H v d → toP d = some p → Dp K H v p
  | .non, _, _, .non, e => by cases e; exact .non
  | .bl _, _, _, .bl b, e => by cases e; exact .bl b
  | .int _, _, _, .int i, e => by cases e; exact .int i
  | .str _, _, _, .str s, e => by cases e; exact .str s
  | .lst ds, _, p, .lst n h r, e => by
    unfold toP at e
    cases q : toPs ds with
    | none => rw [q] at e; cases e
    | some ps =>
      rw [q] at e
      cases e
      exact .lst (.of h) (dps_of r q)
  | .tup ds, _, p, .tup n h r, e => by
    unfold toP at e
    cases q : toPs ds with
    | none => rw [q] at e; cases e
    | some ps =>
      rw [q] at e
      cases e
      exact .tup (.of h) (dps_of r q)
  | .scr _, _, _, _, e => by cases e
  | .ins _ _, _, _, _, e => by cases e
  | .dct _, _, _, _, e => by cases e
  | .dck _, _, _, _, e => by cases e
  | .sti _ _, _, _, _, e => by cases e
  | .exn _ _ _ _, _, _, _, e => by cases e
  | .adr _ _, _, _, _, e => by cases e
  | .ty _, _, _, _, e => by cases e
  | .cls _, _, _, _, e => by cases e
theorem dps_of : ∀ {ds : List D} {vs : List V} {ps : List PyData}, RpA K O H vs ds → toPs ds = some ps → DpAll K H vs ps
  | [], _, _, .nil, e => by cases e; exact .nil
  | d :: ds, _, ps, .cons h r, e => by
    unfold toPs at e
    cases q : toP d with
    | none => rw [q] at e; cases e
    | some p =>
      rw [q] at e
      cases q2 : toPs ds with
      | none => simp [q2] at e
      | some ps' =>
        simp only [Option.bind_some, q2, Option.map_some] at e
        cases e
        exact .cons (dp_of h q) (dps_of r q2)
end
end
def eqB (x y : D) : Option Bool := (toP x).bind fun p => (toP y).bind fun q => if SeqAt.shaped p && SeqAt.shaped q then some (PyData.eqv p q) else none
def eqD (x y : D) : Option D := (eqB x y).map .bl
def neD (x y : D) : Option D := (eqB x y).map fun b => .bl (!b)
theorem eqB_get {x y : D} {b : Bool} (h : eqB x y = some b) : ∃ p q, toP x = some p ∧ toP y = some q ∧ SeqAt.shaped p = true ∧ SeqAt.shaped q = true ∧ b = PyData.eqv p q := by
  unfold eqB at h
  cases hx : toP x with
  | none => rw [hx] at h; cases h
  | some p =>
    rw [hx] at h
    cases hy : toP y with
    | none => simp [hy] at h
    | some q =>
      simp only [Option.bind_some, hy] at h
      split at h
      · rename_i c
        cases h
        rw [Bool.and_eq_true] at c
        exact ⟨p, q, rfl, rfl, c.1, c.2, rfl⟩
      · cases h
section
variable {K : PySem.W.Frag}
theorem rr_eq : RR K (rEqD K) eqD := fun x y d h O H v u o rx ry Q q => by
  unfold eqD at h
  cases e : eqB x y with
  | none => rw [e] at h; cases h
  | some b =>
    rw [e] at h
    cases h
    obtain ⟨p, p', h1, h2, h3, h4, rfl⟩ := eqB_get e
    exact ⟨p, p', dp_of rx h1, dp_of ry h2, h3, h4, rr_fin q (.bl _)⟩
theorem rr_ne : RR K (rNeD K) neD := fun x y d h O H v u o rx ry Q q => by
  unfold neD at h
  cases e : eqB x y with
  | none => rw [e] at h; cases h
  | some b =>
    rw [e] at h
    cases h
    obtain ⟨p, p', h1, h2, h3, h4, rfl⟩ := eqB_get e
    exact ⟨p, p', dp_of rx h1, dp_of ry h2, h3, h4, rr_fin q (.bl _)⟩
/-- is None -/
def rIsN : R2 := fun x y H Q => y = .non ∧ Q (.bl (decide (x = .non))) H
def rNotN : R2 := fun x y H Q => y = .non ∧ Q (.bl (!decide (x = .non))) H
def isNonD : D → Bool
  | .non => true
  | _ => false
def isD (x : D) : D → Option D
  | .non => some (.bl (isNonD x))
  | _ => none
def isntD (x : D) : D → Option D
  | .non => some (.bl (!isNonD x))
  | _ => none
theorem isNon_rp {O : Addr → Prop} {H : Hp} {v : V} {d : D} (r : Rp K O H v d) : decide (v = .non) = isNonD d := by
  cases r <;> first | rfl | (show decide (V.ref _ = V.non) = false; exact decide_eq_false (fun q => by cases q)) | exact decide_eq_false (fun q => by cases q)
theorem rr_is : RR K rIsN isD := fun x y d h O H v u o rx ry Q q => by
  unfold isD at h
  split at h
  · cases h; cases ry
    exact ⟨rfl, by rw [isNon_rp rx]; exact rr_fin q (.bl _)⟩
  · cases h
theorem rr_isnt : RR K rNotN isntD := fun x y d h O H v u o rx ry Q q => by
  unfold isntD at h
  split at h
  · cases h; cases ry
    exact ⟨rfl, by rw [isNon_rp rx]; exact rr_fin q (.bl _)⟩
  · cases h
/-! ### in: flat items -/
def D.flat4 : D → Bool
  | .non => true | .bl _ => true | .int _ => true | .str _ => true | _ => false
def eqF : D → D → Bool
  | .non, .non => true
  | .bl a, .bl b => a == b
  | .bl a, .int b => (if a then 1 else 0) == b
  | .int a, .bl b => a == (if b then 1 else 0)
  | .int a, .int b => a == b
  | .str a, .str b => a == b
  | _, _ => false
theorem flat4_rp {O : Addr → Prop} {H : Hp} {v : V} {d : D} (r : Rp K O H v d) (f : d.flat4 = true) : flatV v = true := by
  cases r <;> first | rfl | cases f
theorem eqF_rp {O O' : Addr → Prop} {H H' : Hp} {v u : V} {d e : D} (r : Rp K O H v d) (s : Rp K O' H' u e) (f : d.flat4 = true) (f' : e.flat4 = true) : eqV v u = eqF d e := by
  cases r <;> first | (cases f; done) | (cases s <;> first | (cases f'; done) | rfl)
theorem flats_rp {O : Addr → Prop} {H : Hp} : ∀ {vs : List V} {ds : List D}, RpA K O H vs ds → ds.all D.flat4 = true → vs.all flatV = true
  | _, _, .nil, _ => rfl
  | _, _, .cons h r, f => by
    rw [List.all_cons, Bool.and_eq_true] at f ⊢
    exact ⟨flat4_rp h f.1, flats_rp r f.2⟩
theorem inV_rp {O : Addr → Prop} {H : Hp} {u : V} {e : D} (s : Rp K O H u e) (f' : e.flat4 = true) : ∀ {vs : List V} {ds : List D}, RpA K O H vs ds → ds.all D.flat4 = true → inV u vs = ds.any fun z => eqF z e
  | _, _, .nil, _ => rfl
  | _, _, .cons h r, f => by
    rw [List.all_cons, Bool.and_eq_true] at f
    have ih := inV_rp s f' r f.2
    unfold inV at ih ⊢
    rw [List.any_cons, List.any_cons, ih, eqF_rp h s f.1 f']
def inB (x : D) : D → Option Bool
  | .lst ds => if x.flat4 && ds.all D.flat4 then some (ds.any fun z => eqF z x) else none
  | .tup ds => if x.flat4 && ds.all D.flat4 then some (ds.any fun z => eqF z x) else none
  | _ => none
def inD (x y : D) : Option D := (inB x y).map .bl
def ninD (x y : D) : Option D := (inB x y).map fun b => .bl (!b)
theorem in_rp {O : Addr → Prop} {H : Hp} {x y : D} {v u : V} {b : Bool} (h : inB x y = some b) (rx : Rp K O H v x) (ry : Rp K O H u y) : ∃ p xs, u = .ref p ∧ (SqL K H p xs ∨ SqT K H p xs) ∧ flatV v = true ∧ xs.all flatV = true ∧ inV v xs = b := by
  unfold inB at h
  split at h
  · split at h
    · rename_i c
      cases h
      rw [Bool.and_eq_true] at c
      cases ry with
      | lst n e r => exact ⟨_, _, rfl, .inl (.of e), flat4_rp rx c.1, flats_rp r c.2, inV_rp rx c.1 r c.2⟩
    · cases h
  · split at h
    · rename_i c
      cases h
      rw [Bool.and_eq_true] at c
      cases ry with
      | tup n e r => exact ⟨_, _, rfl, .inr (.of e), flat4_rp rx c.1, flats_rp r c.2, inV_rp rx c.1 r c.2⟩
    · cases h
  · cases h
theorem rr_in : RR K (rIn K false) inD := fun x y d h O H v u o rx ry Q q => by
  unfold inD at h
  cases e : inB x y with
  | none => rw [e] at h; cases h
  | some b =>
    rw [e] at h
    cases h
    obtain ⟨p, xs, h1, h2, h3, h4, h5⟩ := in_rp e rx ry
    refine ⟨p, xs, h1, h2, h3, h4, ?_⟩
    rw [if_neg Bool.false_ne_true, h5]
    exact rr_fin q (.bl _)
/-! ### subscripts -/
def ixD : D → D → Option D
  | .lst ds, .int i => atI ds i
  | .tup ds, .int i => atI ds i
  | .scr ns, .int i => (atI ns i).map .int
  | .str s, .int i => if s.length ≤ 100000 then (atI s.cps.toList i).map fun c => .str ⟨#[c]⟩ else none
  | _, _ => none
theorem RpA.at {O : Addr → Prop} {H : Hp} {vs : List V} {ds : List D} {i : Int} {d : D} (r : RpA K O H vs ds) (h : atI ds i = some d) : ∃ v, atI vs i = some v ∧ Rp K O H v d := by
  unfold atI at h ⊢
  rw [r.len]
  cases e : ixN ds.length i with
  | none => rw [e] at h; cases h
  | some j =>
    rw [e] at h
    obtain ⟨v, h1, h2⟩ := r.get h
    exact ⟨v, h1, h2⟩
theorem atI_map {α β : Type} (f : α → β) (xs : List α) (i : Int) : atI (xs.map f) i = (atI xs i).map f := by
  unfold atI
  rw [List.length_map]
  cases ixN xs.length i with
  | none => rfl
  | some j => simp [List.getElem?_map]
theorem rr_ix : RR K (rIx K) ixD := fun x y d h O H v u o rx ry Q q => by
  unfold ixD at h
  split at h
  · cases ry
    cases rx with
    | lst n e r =>
      obtain ⟨w, h1, h2⟩ := r.at h
      exact .inl ⟨_, _, _, w, rfl, rfl, .of e, h1, rr_fin q h2⟩
  · cases ry
    cases rx with
    | tup n e r =>
      obtain ⟨w, h1, h2⟩ := r.at h
      exact .inr (.inl ⟨_, _, _, w, rfl, rfl, .of e, h1, rr_fin q h2⟩)
  · rename_i ns i
    cases ry
    cases e : atI ns i with
    | none => rw [e] at h; cases h
    | some k =>
      rw [e] at h
      cases h
      have e2 : atI (ns.map V.int) i = some (.int k) := by rw [atI_map, e] <;> rfl
      cases rx with
      | scr n r => exact .inl ⟨_, _, _, _, rfl, rfl, .inl r, e2, rr_fin q (.int k)⟩
      | kscr r => exact .inl ⟨_, _, _, _, rfl, rfl, r H, e2, rr_fin q (.int k)⟩
  · rename_i s i
    split at h
    · rename_i hl
      cases e : atI s.cps.toList i with
      | none => rw [e] at h; cases h
      | some k =>
        rw [e] at h
        cases h; cases rx; cases ry
        exact .inr (.inr ⟨_, _, _, rfl, rfl, Evl.sz_of hl, e, rr_fin q (.str _)⟩)
    · cases h
  · cases h
/-! ### slices -/
abbrev DOF : Type := Gm → Option (Option Int)
def oNone : DOF := fun _ => some none
def oSome (a : DF) : DOF := fun g => (a g).bind fun x => match x with
  | .int i => some (some i)
  | _ => none
def OR (K : PySem.W.Frag) (to : TO) (t : DOF) : Prop := ∀ g b, t g = some b → ∀ H0 Oc pins ow σ H, Reps K H0 Oc pins ow σ H g → ∀ Q : Option Int → Hp → Prop, (∀ H', Ex H H' → Q b H') → to σ H Q
theorem or_none : OR K tNoPart oNone := fun g d h H0 Oc pins ow σ H R Q q => by cases h; exact q H (Evl.Ex.refl H)
theorem or_some {te : TE} {a : DF} (ha : ER K te a) : OR K (tPart te) (oSome a) := fun g d h H0 Oc pins ow σ H R Q q => by
  unfold oSome at h
  cases ea : a g with
  | none => rw [ea] at h; cases h
  | some x =>
    rw [ea] at h
    simp only [Option.bind_some] at h
    split at h
    · cases h
      exact ha g _ ea H0 Oc pins ow σ H R _ fun v H1 e1 r1 => by
        cases r1
        exact ⟨_, rfl, q H1 e1⟩
    · cases h
def cutL {α : Type} (xs : List α) (lo hi : Option Int) : List α := (xs.drop (HT.sIx xs.length 0 lo)).take (HT.sIx xs.length xs.length hi - HT.sIx xs.length 0 lo)
theorem RpA.cut {O : Addr → Prop} {H : Hp} {vs : List V} {ds : List D} (r : RpA K O H vs ds) (lo hi : Option Int) : RpA K O H (cutV vs lo hi) (cutL ds lo hi) := by
  unfold cutV cutL
  rw [r.len]
  exact (r.drop _).take _
def slD : D → Option Int → Option Int → Option D
  | .lst ds, lo, hi => some (.lst (cutL ds lo hi))
  | _, _, _ => none
def dSl (a : DF) (lo hi : DOF) : DF := fun g => (a g).bind fun x => (lo g).bind fun l => (hi g).bind fun h => slD x l h
theorem er_sl {te : TE} {tl th : TO} {a : DF} {lo hi : DOF} (ha : ER K te a) (hl : OR K tl lo) (hh : OR K th hi) : ER K (tSl (rSlL K) te tl th) (dSl a lo hi) := fun g d h H0 Oc pins ow σ H R Q q => by
  unfold dSl at h
  cases ea : a g with
  | none => rw [ea] at h; cases h
  | some x =>
    rw [ea] at h
    cases el : lo g with
    | none => simp [el] at h
    | some l =>
      simp only [Option.bind_some, el] at h
      cases eh : hi g with
      | none => simp [eh] at h
      | some u =>
        simp only [Option.bind_some, eh] at h
        refine ha g x ea H0 Oc pins ow σ H R _ fun v H1 e1 r1 => ?_
        refine hl g l el H0 Oc pins ow σ H1 (R.grow e1) _ fun H2 e2 => ?_
        refine hh g u eh H0 Oc pins ow σ H2 ((R.grow e1).grow e2) _ fun H3 e3 => ?_
        unfold slD at h
        split at h
        · cases h
          have r3 := (r1.ex e2).ex e3
          cases r3 with
          | lst n e r =>
            exact ⟨_, _, rfl, .of e, rr_newL (((R.grow e1).grow e2).grow e3).oo (fun w H' e' r' => q w H' (((e1.trans e2).trans e3).trans e') r') (r.cut l u)⟩
        · cases h
/-! ### calls -/
def lenD : List D → Option D
  | [.lst ds] => some (.int ds.length)
  | [.tup ds] => some (.int ds.length)
  | [.scr ns] => some (.int ns.length)
  | [.str s] => if s.length ≤ 100000 then some (.int s.length) else none
  | _ => none
theorem rc_len : RC K (rLenA K) lenD := fun xs d h O H vs o r Q q => by
  unfold lenD at h
  split at h
  · cases h
    cases r with
    | cons r rr =>
      cases rr
      cases r with
      | lst n e r => exact .inl ⟨_, _, rfl, .inl (.of e), by rw [r.len]; exact rr_fin q (.int _)⟩
  · cases h
    cases r with
    | cons r rr =>
      cases rr
      cases r with
      | tup n e r => exact .inl ⟨_, _, rfl, .inr (.of e), by rw [r.len]; exact rr_fin q (.int _)⟩
  · cases h
    cases r with
    | cons r rr =>
      cases rr
      cases r with
      | scr n e => exact .inl ⟨_, _, rfl, .inl (.inl e), by rw [List.length_map]; exact rr_fin q (.int _)⟩
      | kscr e => exact .inl ⟨_, _, rfl, .inl (e H), by rw [List.length_map]; exact rr_fin q (.int _)⟩
  · split at h
    · rename_i hl
      cases h
      cases r with
      | cons r rr =>
        cases rr
        cases r
        exact .inr ⟨_, rfl, Evl.sz_of hl, rr_fin q (.int _)⟩
    · cases h
  · cases h
def rAbs : List V → Hp → VK → Prop := fun xs H Q => ∃ i, xs = [.int i] ∧ Q (.int (if i < 0 then -i else i)) H
def absD : List D → Option D
  | [.int i] => some (.int (if i < 0 then -i else i))
  | _ => none
theorem rc_abs : RC K rAbs absD := fun xs d h O H vs o r Q q => by
  unfold absD at h
  split at h
  · cases h
    cases r with
    | cons r rr => cases rr; cases r; exact ⟨_, rfl, rr_fin q (.int _)⟩
  · cases h
def rInt1 : List V → Hp → VK → Prop := fun xs H Q => (∃ i, xs = [.int i] ∧ Q (.int i) H) ∨ ∃ k, xs = [.bl k] ∧ Q (.int (if k then 1 else 0)) H
def intD : List D → Option D
  | [.int i] => some (.int i)
  | [.bl k] => some (.int (if k = true then 1 else 0))
  | _ => none
theorem rc_int : RC K rInt1 intD := fun xs d h O H vs o r Q q => by
  unfold intD at h
  split at h
  · cases h
    cases r with
    | cons r rr => cases rr; cases r; exact .inl ⟨_, rfl, rr_fin q (.int _)⟩
  · cases h
    cases r with
    | cons r rr => cases rr; cases r; exact .inr ⟨_, rfl, rr_fin q (.int _)⟩
  · cases h
def rListOf (K : PySem.W.Frag) : List V → Hp → VK → Prop := fun xs H Q => ∃ p ys, xs = [.ref p] ∧ (SqL K H p ys ∨ SqT K H p ys) ∧ ∀ l, H l = none → Q (.ref l) (upd H l (.lst ys))
def listD : List D → Option D
  | [.lst ds] => some (.lst ds)
  | [.tup ds] => some (.lst ds)
  | _ => none
theorem rc_list : RC K (rListOf K) listD := fun xs d h O H vs o r Q q => by
  unfold listD at h
  split at h
  · cases h
    cases r with
    | cons r rr =>
      cases rr
      cases r with
      | lst n e r => exact ⟨_, _, rfl, .inl (.of e), rr_newL o q r⟩
  · cases h
    cases r with
    | cons r rr =>
      cases rr
      cases r with
      | tup n e r => exact ⟨_, _, rfl, .inr (.of e), rr_newL o q r⟩
  · cases h
def rTupleOf (K : PySem.W.Frag) : List V → Hp → VK → Prop := fun xs H Q => ∃ p ys, xs = [.ref p] ∧ ((SqL K H p ys ∧ ∀ l, H l = none → Q (.ref l) (upd H l (.tup ys))) ∨ (SqT K H p ys ∧ Q (.ref p) H))
def tupleD : List D → Option D
  | [.lst ds] => some (.tup ds)
  | [.tup ds] => some (.tup ds)
  | _ => none
theorem rc_tuple : RC K (rTupleOf K) tupleD := fun xs d h O H vs o r Q q => by
  unfold tupleD at h
  split at h
  · cases h
    cases r with
    | cons r rr =>
      cases rr
      cases r with
      | lst n e r => exact ⟨_, _, rfl, .inl ⟨.of e, rr_newT o q r⟩⟩
  · cases h
    cases r with
    | cons r rr =>
      cases rr
      cases r with
      | tup n e r => exact ⟨_, _, rfl, .inr ⟨.of e, rr_fin q (.tup n e r)⟩⟩
  · cases h
def asInts : List D → Option (List Int)
  | [] => some []
  | .int i :: ds => (asInts ds).map (i :: ·)
  | _ => none
theorem asInts_iL : ∀ {ds : List D} {ns : List Int}, asInts ds = some ns → ds = iL ns
  | [], ns, h => by cases h; rfl
  | .int i :: ds, ns, h => by
    unfold asInts at h
    cases e : asInts ds with
    | none => rw [e] at h; cases h
    | some ms =>
      rw [e] at h
      cases h
      show D.int i :: ds = D.int i :: iL ms
      rw [asInts_iL e]
  | .non :: _, _, h => by cases h
  | .bl _ :: _, _, h => by cases h
  | .str _ :: _, _, h => by cases h
  | .lst _ :: _, _, h => by cases h
  | .tup _ :: _, _, h => by cases h
  | .scr _ :: _, _, h => by cases h
  | .ins _ _ :: _, _, h => by cases h
  | .dct _ :: _, _, h => by cases h
  | .dck _ :: _, _, h => by cases h
  | .sti _ _ :: _, _, h => by cases h
  | .exn _ _ _ _ :: _, _, h => by cases h
  | .adr _ _ :: _, _, h => by cases h
  | .ty _ :: _, _, h => by cases h
  | .cls _ :: _, _, h => by cases h
theorem asInts_of : ∀ ns : List Int, asInts (iL ns) = some ns
  | [] => rfl
  | n :: ns => by
    show (asInts (iL ns)).map (n :: ·) = _
    rw [asInts_of ns] <;> rfl
def asBls : List D → Option (List Bool)
  | [] => some []
  | .bl i :: ds => (asBls ds).map (i :: ·)
  | _ => none
theorem asBls_vs {O : Addr → Prop} {H : Hp} : ∀ {ds : List D} {vs : List V} {ns : List Bool}, RpA K O H vs ds → asBls ds = some ns → vs = ns.map V.bl
  | [], _, ns, .nil, h => by cases h; rfl
  | d :: ds, _, ns, .cons r rr, h => by
    cases r <;> first | (cases h; done) | skip
    unfold asBls at h
    cases e : asBls ds with
    | none => rw [e] at h; cases h
    | some ms =>
      rw [e] at h
      cases h
      rw [List.map_cons, asBls_vs rr e]
def minD : List D → Option D
  | [.lst ds] => (asInts ds).bind fun ns => ns.min?.map .int
  | [.tup ds] => (asInts ds).bind fun ns => ns.min?.map .int
  | [.int i, .int j] => some (.int (if j < i then j else i))
  | _ => none
theorem min_pick {ns : List Int} {m : Int} (em : ns.min? = some m) : 0 < ns.length ∧ ∀ k, k ∈ ns → (∀ y, y ∈ ns → k ≤ y) → k = m := by
  have hm := List.min?_eq_some_iff.mp em
  refine ⟨?_, fun k hk hle => Int.le_antisymm (hle m hm.1) (hm.2 k hk)⟩
  cases ns with
  | nil => cases em
  | cons a b => exact Nat.succ_pos _
theorem rc_min : RC K (rMinA K) minD := fun xs d h O H vs o r Q q => by
  unfold minD at h
  split at h
  · rename_i ds
    cases e : asInts ds with
    | none => rw [e] at h; cases h
    | some ns =>
      rw [e] at h
      simp only [Option.bind_some] at h
      cases em : ns.min? with
      | none => rw [em] at h; cases h
      | some m =>
        rw [em] at h
        cases h
        obtain rfl := asInts_iL e
        cases r with
        | cons r rr =>
          cases rr
          cases r with
          | lst n e r =>
            rw [r.toInts] at e
            refine .inl (.inl ⟨_, ns, rfl, .of e, (min_pick em).1, fun k hk hle => ?_⟩)
            rw [(min_pick em).2 k hk hle]
            exact rr_fin q (.int m)
  · rename_i ds
    cases e : asInts ds with
    | none => rw [e] at h; cases h
    | some ns =>
      rw [e] at h
      simp only [Option.bind_some] at h
      cases em : ns.min? with
      | none => rw [em] at h; cases h
      | some m =>
        rw [em] at h
        cases h
        obtain rfl := asInts_iL e
        cases r with
        | cons r rr =>
          cases rr
          cases r with
          | tup n e r =>
            rw [r.toInts] at e
            refine .inr ⟨_, ns, rfl, .of e, (min_pick em).1, fun k hk hle => ?_⟩
            rw [(min_pick em).2 k hk hle]
            exact rr_fin q (.int m)
  · cases h
    cases r with
    | cons r rr =>
      cases rr with
      | cons r' rr =>
        cases rr; cases r; cases r'
        exact .inl (.inr ⟨_, _, rfl, rr_fin q (.int _)⟩)
  · cases h
def maxD : List D → Option D
  | [.lst ds] => (asInts ds).bind fun ns => ns.max?.map .int
  | [.int i, .int j] => some (.int (if j > i then j else i))
  | _ => none
theorem rc_max : RC K (rMaxA K) maxD := fun xs d h O H vs o r Q q => by
  unfold maxD at h
  split at h
  · rename_i ds
    cases e : asInts ds with
    | none => rw [e] at h; cases h
    | some ns =>
      rw [e] at h
      simp only [Option.bind_some] at h
      cases em : ns.max? with
      | none => rw [em] at h; cases h
      | some m =>
        rw [em] at h
        cases h
        obtain rfl := asInts_iL e
        cases r with
        | cons r rr =>
          cases rr
          cases r with
          | lst n e r =>
            rw [r.toInts] at e
            refine .inl ⟨_, ns, rfl, .of e, ?_, fun k hk hle => ?_⟩
            · cases ns with
              | nil => cases em
              | cons a b => exact Nat.succ_pos _
            · have hm := List.max?_eq_some_iff.mp em
              have : k = m := Int.le_antisymm (hm.2 k hk) (hle m hm.1)
              rw [this]
              exact rr_fin q (.int m)
  · cases h
    cases r with
    | cons r rr =>
      cases rr with
      | cons r' rr =>
        cases rr; cases r; cases r'
        exact .inr ⟨_, _, rfl, rr_fin q (.int _)⟩
  · cases h
def allD : List D → Option D
  | [.lst ds] => (asBls ds).map fun bs => .bl (bs.all id)
  | _ => none
theorem rc_all : RC K (rAll K) allD := fun xs d h O H vs o r Q q => by
  unfold allD at h
  split at h
  · rename_i ds
    cases e : asBls ds with
    | none => rw [e] at h; cases h
    | some ns =>
      rw [e] at h
      cases h
      cases r with
      | cons r rr =>
        cases rr
        cases r with
        | lst n e' r =>
          rw [asBls_vs r e] at e'
          exact ⟨_, ns, rfl, .of e', rr_fin q (.bl _)⟩
  · cases h
/-- sorted ints -/
def srt (ns : List Int) : List Int := ns.mergeSort (fun a b => decide (a ≤ b))
theorem perm_sorted : ∀ {xs ys : List Int}, xs.Perm ys → xs.Pairwise (· ≤ ·) → ys.Pairwise (· ≤ ·) → xs = ys
  | [], ys, p, _, _ => (List.nil_perm.mp p).symm ▸ rfl
  | x :: xs, [], p, _, _ => absurd (List.perm_nil.mp p) (by simp)
  | x :: xs, y :: ys, p, h1, h2 => by
    have hx : x ∈ y :: ys := p.mem_iff.mp List.mem_cons_self
    have hy : y ∈ x :: xs := p.mem_iff.mpr List.mem_cons_self
    have h1' := List.pairwise_cons.mp h1
    have h2' := List.pairwise_cons.mp h2
    have le1 : y ≤ x := by
      rcases List.mem_cons.mp hx with e | e
      · omega
      · exact h2'.1 x e
    have le2 : x ≤ y := by
      rcases List.mem_cons.mp hy with e | e
      · omega
      · exact h1'.1 y e
    have e : x = y := Int.le_antisymm le2 le1
    subst e
    rw [perm_sorted (List.perm_cons x |>.mp p) h1'.2 h2'.2]
theorem srt_perm (ns : List Int) : (srt ns).Perm ns := List.mergeSort_perm _ _
theorem srt_sorted (ns : List Int) : (srt ns).Pairwise (· ≤ ·) := by
  have h := List.pairwise_mergeSort (le := fun a b : Int => decide (a ≤ b)) (fun a b c h1 h2 => by simp at *; omega) (fun a b => by simp; omega) ns
  exact h.imp fun q => of_decide_eq_true q
def sortedD : List D → Option D
  | [.lst ds] => (asInts ds).map fun ns => .lst (iL (srt ns))
  | [.tup ds] => (asInts ds).map fun ns => .lst (iL (srt ns))
  | _ => none
theorem rc_sorted : RC K (rSortedA K) sortedD := fun xs d h O H vs o r Q q => by
  unfold sortedD at h
  split at h
  · rename_i ds
    cases e : asInts ds with
    | none => rw [e] at h; cases h
    | some ns =>
      rw [e] at h
      cases h
      obtain rfl := asInts_iL e
      cases r with
      | cons r rr =>
        cases rr
        cases r with
        | lst n e r =>
          rw [r.toInts] at e
          refine .inl ⟨_, ns, rfl, .of e, fun ns' p h1 h2 hp => ?_⟩
          have e2 : ns' = srt ns := perm_sorted (h1.trans (srt_perm ns).symm) h2 (srt_sorted ns)
          rw [e2]
          exact rr_newL o q (RpA.ofInts _) p hp
  · rename_i ds
    cases e : asInts ds with
    | none => rw [e] at h; cases h
    | some ns =>
      rw [e] at h
      cases h
      obtain rfl := asInts_iL e
      cases r with
      | cons r rr =>
        cases rr
        cases r with
        | tup n e r =>
          rw [r.toInts] at e
          refine .inr ⟨_, ns, rfl, .of e, fun ns' p h1 h2 hp => ?_⟩
          have e2 : ns' = srt ns := perm_sorted (h1.trans (srt_perm ns).symm) h2 (srt_sorted ns)
          rw [e2]
          exact rr_newL o q (RpA.ofInts _) p hp
  · cases h
/-! ### sum of a list of ints -/
def sumD : List D → Option D
  | [.lst ds] => (asInts ds).map fun ns => .int ns.sum
  | _ => none
theorem rc_sum : RC K (rSum K) sumD := fun xs d h O H vs o r Q q => by
  unfold sumD at h
  split at h
  · rename_i ds
    cases e : asInts ds with
    | none => rw [e] at h; cases h
    | some ns =>
      rw [e] at h
      cases h
      obtain rfl := asInts_iL e
      cases r with
      | cons r rr =>
        cases rr
        cases r with
        | lst n e r =>
          rw [r.toInts] at e
          exact ⟨_, ns, rfl, .of e, rr_fin q (.int _)⟩
  · cases h
/-! ### isinstance of a built-in type -/
def tyN : D → Option String
  | .non => some "NoneType"
  | .bl _ => some "bool"
  | .int _ => some "int"
  | .str _ => some "str"
  | .lst _ => some "list"
  | .tup _ => some "tuple"
  | _ => none
theorem ty_rp {O : Addr → Prop} {H : Hp} {v : V} {d : D} {n : String} (r : Rp K O H v d) (h : tyN d = some n) : TyX K H v (.type n) := by
  cases r with
  | non => cases h; exact .base .non
  | bl b => cases h; exact .base (.bl b)
  | int b => cases h; exact .base (.int b)
  | str b => cases h; exact .base (.str b)
  | lst m e r => cases h; exact .base (.lst e)
  | tup m e r => cases h; exact .base (.tup e)
  | dct m e x r => cases h
  | dck m e x r => cases h
  | sti m e => cases h
  | exn m e r => cases h
  | adr r => cases h
  | scr m e => cases h
  | kscr e => cases h
  | ins m e r => cases h
  | ty n => cases h
  | cls C => cases h
def isiD : List D → Option D
  | [x, .ty T] => (tyN x).bind fun n => (kitB n T).map .bl
  | _ => none
theorem rc_isi : RC K (rIsi K) isiD := fun xs d h O H vs o r Q q => by
  unfold isiD at h
  split at h
  · rename_i x T
    cases e : tyN x with
    | none => rw [e] at h; cases h
    | some n =>
      rw [e] at h
      simp only [Option.bind_some] at h
      cases ek : kitB n T with
      | none => rw [ek] at h; cases h
      | some b =>
        rw [ek] at h
        cases h
        cases r with
        | cons r rr =>
          cases rr with
          | cons r' rr =>
            cases rr; cases r'
            exact ⟨_, _, _, _, b, rfl, .ty T, ty_rp r e, kit_ty ek, rr_fin q (.bl b)⟩
  · cases h
/-- fields of an instance -/
def fldD (C : Addr) (f : Str) : D → Option D
  | .ins C' gs => if C' = C then gs.lookup f else none
  | _ => none
theorem er_fld {ta : TE} {a : DF} {C : Addr} {f : Str} (cl : Cls K C) (na : NoAttr K C f) (ha : ER K ta a) : ER K (tFld K ta f) (d1 (fldD C f) a) := fun g d h H0 Oc pins ow σ H R Q q => by
  unfold d1 at h
  cases ea : a g with
  | none => rw [ea] at h; cases h
  | some x =>
    rw [ea] at h
    simp only [Option.bind_some] at h
    refine ha g x ea H0 Oc pins ow σ H R _ fun v H1 e1 r1 => ?_
    unfold fldD at h
    split at h
    · split at h
      · rename_i ec
        subst ec
        cases r1 with
        | ins n e r =>
          obtain ⟨w, h1, h2⟩ := r.look h
          exact ⟨_, _, _, _, w, rfl, e, cl, na, h1, q w H1 e1 h2⟩
      · cases h
    · cases h
/-- list(reversed(xs)) -/
def revD : D → Option D
  | .lst ds => some (.lst ds.reverse)
  | _ => none
theorem er_listRev {te : TE} {a : DF} (ha : ER K te a) : ER K (RT.tListRev K te) (d1 revD a) := fun g d h H0 Oc pins ow σ H R Q q => by
  unfold d1 at h
  cases ea : a g with
  | none => rw [ea] at h; cases h
  | some x =>
    rw [ea] at h
    simp only [Option.bind_some] at h
    refine ha g x ea H0 Oc pins ow σ H R _ fun v H1 e1 r1 => ?_
    unfold revD at h
    split at h
    · cases h
      cases r1 with
      | lst n e r => exact ⟨_, _, rfl, .of e, rr_newL (R.grow e1).oo (fun w H' e' r' => q w H' (e1.trans e') r') r.reverse⟩
    · cases h
end
end Zk
end

section
set_option Elab.async false
set_option linter.all false
set_option maxRecDepth 100000
set_option autoImplicit false
set_option maxHeartbeats 2000000
/-! What is walked; comprehensions; calls; statements. -/
namespace Zk
open PySem L2 PyProof.Rows
open Evl (Ex)

section
variable {K : PySem.W.Frag} {H0 H H' H1 : Hp} {Oc : Addr → Prop} {pins : Pn} {ow : OW} {σ : L2.St} {g : Gm}

/-! ### slots and owned things change -/
theorem Reps.lt (R : Reps K H0 Oc pins ow σ H g) {i : Nat} (hi : i < g.length) : i < σ.length := by rw [R.len]; exact hi
def dropW (ow : OW) (i : Nat) : OW := fun j => if j = i then none else ow j
theorem dropW_of {ow : OW} {i j : Nat} {a : Addr} (h : dropW ow i j = some a) : j ≠ i ∧ ow j = some a := by
  unfold dropW at h
  split at h
  · cases h
  · rename_i n; exact ⟨n, h⟩
theorem dropW_ne {ow : OW} {i j : Nat} (h : j ≠ i) : dropW ow i j = ow j := by
  unfold dropW
  rw [if_neg h]
def ownAt (g : Gm) (i : Nat) : Bool := match g[i]? with
  | some (some (.o _)) => true
  | _ => false
/-- slot i may be stored to: it is there, and it is not the object that a def is making -/
def okSlot (g : Gm) (i : Nat) : Bool := decide (i < g.length) && (i != 0 || !ownAt g 0)
theorem okSlot_lt {g : Gm} {i : Nat} (h : okSlot g i = true) : i < g.length := by
  unfold okSlot at h
  rw [Bool.and_eq_true] at h
  exact of_decide_eq_true h.1
theorem okSlot_me {g : Gm} {i : Nat} (h : okSlot g i = true) (R : Reps K H0 Oc pins ow σ H g) {x : Addr} (e : pins.me = some x) : 0 ≠ i := fun z => by
  unfold okSlot at h
  rw [Bool.and_eq_true] at h
  obtain ⟨d, hd⟩ := R.is 0 x (R.slf x e)
  have o : ownAt g 0 = true := by unfold ownAt; rw [hd]
  rw [o, ← z] at h
  exact absurd h.2 (by decide)
/-- slot i is given a known value -/
theorem Reps.setV (R : Reps K H0 Oc pins ow σ H g) {i : Nat} {v : V} {d : D} (hi : okSlot g i = true) (r : Rp K (OO Oc ow) H v d) : Reps K H0 Oc pins (dropW ow i) (σ.set i (some v)) H (g.set i (some (.v d))) where
  len := by rw [List.length_set, List.length_set]; exact R.len
  ex := R.ex
  oc := R.oc
  fr := fun j a h => R.fr j a (dropW_of h).2
  inj := fun j l a h h' => R.inj j l a (dropW_of h).2 (dropW_of h').2
  is := fun j a h => by
    obtain ⟨n, h⟩ := dropW_of h
    rw [List.getElem?_set_ne (Ne.symm n)]
    exact R.is j a h
  val := fun j d' h => by
    have k := R.kpDrop (ow' := dropW ow i) (fun j a z => (dropW_of z).2)
    by_cases n : j = i
    · subst n
      rw [List.getElem?_set_self (okSlot_lt hi)] at h
      cases h
      exact ⟨v, List.getElem?_set_self (R.lt (okSlot_lt hi)), r.kp k⟩
    · rw [List.getElem?_set_ne (Ne.symm n)] at h ⊢
      obtain ⟨w, h1, h2⟩ := R.val j d' h
      exact ⟨w, h1, h2.kp k⟩
  own := fun j d' h => by
    have k := R.kpDrop (ow' := dropW ow i) (fun j a z => (dropW_of z).2)
    by_cases n : j = i
    · subst n
      rw [List.getElem?_set_self (okSlot_lt hi)] at h
      cases h
    · rw [List.getElem?_set_ne (Ne.symm n)] at h ⊢
      obtain ⟨a, h1, h2, h3⟩ := R.own j d' h
      exact ⟨a, (dropW_ne n).trans h1, h2, h3.kp k rfl⟩
  pin := fun p h => (R.pin p h).kp (R.kpDrop (fun j a z => (dropW_of z).2))
  slf := fun x e => (dropW_ne (okSlot_me hi R e)).trans (R.slf x e)
/-- slot i is given a new thing of its own -/
def putW (ow : OW) (i : Nat) (p : Addr) : OW := fun j => if j = i then some p else ow j
theorem putW_of {ow : OW} {i j : Nat} {p a : Addr} (h : putW ow i p j = some a) : (j = i ∧ a = p) ∨ (j ≠ i ∧ ow j = some a) := by
  unfold putW at h
  split at h
  · rename_i n; cases h; exact .inl ⟨n, rfl⟩
  · rename_i n; exact .inr ⟨n, h⟩
theorem Reps.fresh0 (R : Reps K H0 Oc pins ow σ H g) {p : Addr} (h : H p = none) : H0 p = none := Evl.fresh_back R.ex h
theorem Reps.setO (R : Reps K H0 Oc pins ow σ H g) {i : Nat} {p : Addr} {d : D} (hi0 : okSlot g i = true) (hp : H p = none) (e : Ex H H') (r : RpO K (fun a => OO Oc ow a ∨ a = p) H' p d) :
    Reps K H0 Oc pins (putW ow i p) (σ.set i (some (.ref p))) H' (g.set i (some (.o d))) := by
  have hi := okSlot_lt hi0
  have np : ∀ j a, ow j = some a → a ≠ p := fun j a h z => by rw [z] at h; exact (R.fr j p h).2.1 hp
  have k : Kp (OO Oc ow) H (OO Oc (putW ow i p)) H' := fun a o n h => by
    refine ⟨fun z => ?_, e a o h⟩
    rcases z with z | ⟨j, z⟩
    · exact n (.inl z)
    · rcases putW_of z with ⟨_, z⟩ | ⟨_, z⟩
      · rw [z, hp] at h; cases h
      · exact n (.inr ⟨j, z⟩)
  have k2 : Kp (fun a => OO Oc ow a ∨ a = p) H' (OO Oc (putW ow i p)) H' := fun a o n h => by
    refine ⟨fun z => ?_, h⟩
    rcases z with z | ⟨j, z⟩
    · exact n (.inl (.inl z))
    · rcases putW_of z with ⟨_, z⟩ | ⟨_, z⟩
      · exact n (.inr z)
      · exact n (.inl (.inr ⟨j, z⟩))
  exact {
    len := by rw [List.length_set, List.length_set]; exact R.len
    ex := R.ex.trans e
    oc := R.oc
    fr := fun j a h => by
      rcases putW_of h with ⟨_, z⟩ | ⟨_, z⟩
      · rw [z]; exact ⟨R.fresh0 hp, r.lv⟩
      · exact ⟨(R.fr j a z).1, (R.fr j a z).2.ex e⟩
    inj := fun j l a h h' => by
      rcases putW_of h with ⟨z, y⟩ | ⟨_, z⟩
      · rcases putW_of h' with ⟨z', _⟩ | ⟨_, z'⟩
        · rw [z, z']
        · exact absurd y (np l a z')
      · rcases putW_of h' with ⟨_, y⟩ | ⟨_, z'⟩
        · exact absurd y (np j a z)
        · exact R.inj j l a z z'
    is := fun j a h => by
      rcases putW_of h with ⟨z, _⟩ | ⟨n, z⟩
      · rw [z, List.getElem?_set_self hi]; exact ⟨d, rfl⟩
      · rw [List.getElem?_set_ne (Ne.symm n)]; exact R.is j a z
    val := fun j d' h => by
      by_cases n : j = i
      · subst n
        rw [List.getElem?_set_self hi] at h
        cases h
      · rw [List.getElem?_set_ne (Ne.symm n)] at h ⊢
        obtain ⟨w, h1, h2⟩ := R.val j d' h
        exact ⟨w, h1, h2.kp k⟩
    own := fun j d' h => by
      by_cases n : j = i
      · subst n
        rw [List.getElem?_set_self hi] at h
        cases h
        exact ⟨p, by unfold putW; rw [if_pos rfl], List.getElem?_set_self (R.lt hi), r.kp k2 rfl⟩
      · rw [List.getElem?_set_ne (Ne.symm n)] at h ⊢
        obtain ⟨a, h1, h2, h3⟩ := R.own j d' h
        refine ⟨a, by unfold putW; rw [if_neg n]; exact h1, h2, h3.kp k ?_⟩
        cases y : H a with
        | none => exact absurd y h3.there
        | some o => exact e a o y
    pin := fun q h => (R.pin q h).kp k
    slf := fun x h => by unfold putW; rw [if_neg (okSlot_me hi0 R h)]; exact R.slf x h }
/-- the thing of slot i is changed -/
theorem Reps.upd (R : Reps K H0 Oc pins ow σ H g) {i : Nat} {a : Addr} {d d' : D} {o : HO} (hg : g[i]? = some (some (Wd.o d))) (ha : ow i = some a) (r : RpO K (OO Oc ow) (upd H a o) a d') :
    Reps K H0 Oc pins ow σ (L2.upd H a o) (g.set i (some (.o d'))) := by
  have hi : i < g.length := (List.getElem?_eq_some_iff.mp hg).1
  have k : Kp (OO Oc ow) H (OO Oc ow) (L2.upd H a o) := fun b u n h => ⟨n, by rw [upd_ne (fun z => n (.inr ⟨i, by rw [z]; exact ha⟩))]; exact h⟩
  exact {
    len := by rw [List.length_set]; exact R.len
    ex := Evl.Ex.mut R.ex (R.fr i a ha).1
    oc := R.oc
    fr := fun j b h => ⟨(R.fr j b h).1, by
      by_cases z : b = a
      · rw [z]; exact r.lv
      · unfold Lv; rw [upd_ne z]; exact (R.fr j b h).2⟩
    inj := R.inj
    is := fun j b h => by
      by_cases n : j = i
      · subst n
        rw [List.getElem?_set_self hi]; exact ⟨d', rfl⟩
      · rw [List.getElem?_set_ne (Ne.symm n)]; exact R.is j b h
    val := fun j e h => by
      by_cases n : j = i
      · subst n
        rw [List.getElem?_set_self hi] at h; cases h
      · rw [List.getElem?_set_ne (Ne.symm n)] at h
        obtain ⟨w, h1, h2⟩ := R.val j e h
        exact ⟨w, h1, h2.kp k⟩
    own := fun j e h => by
      by_cases n : j = i
      · subst n
        rw [List.getElem?_set_self hi] at h
        cases h
        obtain ⟨b, h1, h2, _⟩ := R.own j d hg
        rw [ha] at h1
        cases h1
        exact ⟨a, ha, h2, r⟩
      · rw [List.getElem?_set_ne (Ne.symm n)] at h
        obtain ⟨b, h1, h2, h3⟩ := R.own j e h
        exact ⟨b, h1, h2, h3.kp k (upd_ne (fun z => n (R.inj j i b h1 (by rw [z]; exact ha))))⟩
    pin := fun p h => (R.pin p h).kp k
    slf := R.slf }
def Pn.more (pins : Pn) (ps : List (V × D)) : Pn := ⟨ps ++ pins.ps, pins.me⟩
theorem Reps.morePins (R : Reps K H0 Oc pins ow σ H g) {ps : List (V × D)} (h : ∀ p ∈ ps, Rp K (OO Oc ow) H p.1 p.2) : Reps K H0 Oc (pins.more ps) ow σ H g :=
  ⟨R.len, R.ex, R.oc, R.fr, R.inj, R.is, R.val, R.own, fun p hp => (List.mem_append.mp hp).elim (h p) (R.pin p), R.slf⟩
theorem Reps.lessPins {ps : List (V × D)} (R : Reps K H0 Oc (pins.more ps) ow σ H g) : Reps K H0 Oc pins ow σ H g :=
  ⟨R.len, R.ex, R.oc, R.fr, R.inj, R.is, R.val, R.own, fun p hp => R.pin p (List.mem_append_right _ hp), R.slf⟩
end

/-! ### what a loop walks -/
abbrev DIF : Type := Gm → Option (List D)
structure WkP (K : PySem.W.Frag) (J : It) (ds : List D) (ps : List (V × D)) (Φ : Hp → Prop) : Prop where
  go : ∀ (O : Addr → Prop) (i : Nat) (H : Hp), i < ds.length → (∀ p ∈ ps, Rp K O H p.1 p.2) → Φ H → J.go i H
  yld : ∀ (O : Addr → Prop) (i : Nat) (H : Hp) (v : V) (H' : Hp) (d : D), (∀ a, O a → Lv H a) → (∀ p ∈ ps, Rp K O H p.1 p.2) → J.yld i H v H' → ds[i]? = some d → Ex H H' ∧ Rp K O H' v d
  stop : ∀ (O : Addr → Prop) (H : Hp), (∀ p ∈ ps, Rp K O H p.1 p.2) → Φ H → J.stop ds.length H
/-- .. that needs nothing but what is known -/
abbrev Wk (K : PySem.W.Frag) (J : It) (ds : List D) (ps : List (V × D)) : Prop := WkP K J ds ps fun _ => True
def IR (K : PySem.W.Frag) (wi : TI) (it : DIF) : Prop := ∀ g ds, it g = some ds → ∀ H0 Oc pins ow σ H, Reps K H0 Oc pins ow σ H g → ∀ R : It → Hp → Prop,
  (∀ J H' ps, Ex H H' → (∀ p ∈ ps, Rp K (OO Oc ow) H' p.1 p.2) → Wk K J ds ps → R J H') → wi σ H R
def itemsD : D → Option (List D)
  | .lst ds => some ds
  | .tup ds => some ds
  | .scr ns => some (iL ns)
  | _ => none
def iSeq (K : PySem.W.Frag) (te : TE) : TI := fun σ H R => iList K te σ H R ∨ iTup K te σ H R
theorem pi_or {X : Cx} {tg e : Expr} {w1 w2 : TI} (h1 : PI X tg e w1) (h2 : PI X tg e w2) : PI X tg e (fun σ H R => w1 σ H R ∨ w2 σ H R) := ⟨fun pins s σ H R I h => h.elim (h1.run pins s σ H R I) (h2.run pins s σ H R I)⟩
theorem pi_seq {X : Cx} {tg e : Expr} {te : TE} (h : PE X e te) : PI X tg e (iSeq X.K te) := pi_or (pi_list h) (pi_tup h)
def dItems (a : DF) : DIF := fun g => (a g).bind itemsD
section
variable {K : PySem.W.Frag}
theorem wk_list {a : Addr} {ds : List D} {v : V} {d : D} (hv : v = .ref a) (hd : itemsD d = some ds) (hl : ∀ (O : Addr → Prop) (H : Hp), Rp K O H v d → ∃ xs, SqL K H a xs ∧ RpA K O H xs ds) : Wk K (Itl K a) ds [(v, d)] where
  go := fun O i H hi h _ => by
    obtain ⟨xs, h1, h2⟩ := hl O H (h _ List.mem_cons_self)
    have : i < xs.length := by rw [h2.len]; exact hi
    exact ⟨xs, xs[i], h1, List.getElem?_eq_getElem this⟩
  yld := fun O i H w H' e o h y he => by
    obtain ⟨xs, h1, h2⟩ := hl O H (h _ List.mem_cons_self)
    obtain ⟨rfl, y⟩ := y
    obtain ⟨u, e1, e2⟩ := h2.get he
    have e3 := y xs h1
    rw [e1] at e3
    cases e3
    exact ⟨Evl.Ex.refl _, e2⟩
  stop := fun O H h _ => by
    obtain ⟨xs, h1, h2⟩ := hl O H (h _ List.mem_cons_self)
    exact ⟨xs, h1, by rw [h2.len]; exact Nat.le_refl _⟩
theorem wk_tup {a : Addr} {ds : List D} {v : V} {d : D} (hv : v = .ref a) (hd : itemsD d = some ds) (hl : ∀ (O : Addr → Prop) (H : Hp), Rp K O H v d → ∃ xs, SqT K H a xs ∧ RpA K O H xs ds) : Wk K (Itt K a) ds [(v, d)] where
  go := fun O i H hi h _ => by
    obtain ⟨xs, h1, h2⟩ := hl O H (h _ List.mem_cons_self)
    have : i < xs.length := by rw [h2.len]; exact hi
    exact ⟨xs, xs[i], h1, List.getElem?_eq_getElem this⟩
  yld := fun O i H w H' e o h y he => by
    obtain ⟨xs, h1, h2⟩ := hl O H (h _ List.mem_cons_self)
    obtain ⟨rfl, y⟩ := y
    obtain ⟨u, e1, e2⟩ := h2.get he
    have e3 := y xs h1
    rw [e1] at e3
    cases e3
    exact ⟨Evl.Ex.refl _, e2⟩
  stop := fun O H h _ => by
    obtain ⟨xs, h1, h2⟩ := hl O H (h _ List.mem_cons_self)
    exact ⟨xs, h1, by rw [h2.len]; exact Nat.le_refl _⟩
theorem ir_seq {te : TE} {a : DF} (ha : ER K te a) : IR K (iSeq K te) (dItems a) := fun g ds h H0 Oc pins ow σ H R Q q => by
  unfold dItems at h
  cases ea : a g with
  | none => rw [ea] at h; cases h
  | some x =>
    rw [ea] at h
    simp only [Option.bind_some] at h
    cases x <;> first | (cases h; done) | skip
    · cases h
      refine .inl (ha g _ ea H0 Oc pins ow σ H R _ fun v H1 e1 r1 => ?_)
      have r0 := r1
      cases r1 with
      | @lst a xs _ n e r => exact ⟨a, rfl, ⟨_, .of e⟩, q _ H1 _ e1 (fun p hp => by rw [List.mem_singleton.mp hp]; exact r0) (wk_list rfl rfl fun O H r => by cases r with | lst n e r => exact ⟨_, .of e, r⟩)⟩
    · cases h
      refine .inr (ha g _ ea H0 Oc pins ow σ H R _ fun v H1 e1 r1 => ?_)
      have r0 := r1
      have w : ∀ a, Wk K (Itt K a) ds [(.ref a, .tup ds)] := fun a => wk_tup rfl rfl fun O H r => by
        cases r with
        | tup n e r => exact ⟨_, .of e, r⟩
      cases r1 with
      | @tup a xs _ n e r => exact ⟨a, rfl, ⟨_, .of e⟩, q _ H1 _ e1 (fun p hp => by rw [List.mem_singleton.mp hp]; exact r0) (w a)⟩
    · rename_i ns
      cases h
      refine .inl (ha g _ ea H0 Oc pins ow σ H R _ fun v H1 e1 r1 => ?_)
      have r0 := r1
      have w : ∀ a, Wk K (Itl K a) (iL ns) [(.ref a, .scr ns)] := fun a => wk_list rfl rfl fun O H r => by
        cases r with
        | scr n e => exact ⟨_, .inl e, RpA.ofInts ns⟩
        | kscr e => exact ⟨_, e H, RpA.ofInts ns⟩
      cases r1 with
      | @scr a _ n e => exact ⟨a, rfl, ⟨_, .inl e⟩, q _ H1 _ e1 (fun p hp => by rw [List.mem_singleton.mp hp]; exact r0) (w a)⟩
      | @kscr a _ e => exact ⟨a, rfl, ⟨_, e H1⟩, q _ H1 _ e1 (fun p hp => by rw [List.mem_singleton.mp hp]; exact r0) (w a)⟩
/-- ranges -/
def rngL (lo : Int) (n : Nat) : List D := (List.range n).map fun i => .int (lo + (i : Nat))
theorem wk_rng (lo : Int) (n : Nat) : Wk K (Itr lo n) (rngL lo n) [] where
  go := fun O i H hi h _ => by unfold rngL at hi; rw [List.length_map, List.length_range] at hi; exact hi
  yld := fun O i H w H' e o h y he => by
    obtain ⟨rfl, rfl⟩ := y
    unfold rngL at he
    rw [List.getElem?_map] at he
    have hi : i < n := by
      cases z : (List.range n)[i]? with
      | none => rw [z] at he; cases he
      | some j => have := (List.getElem?_eq_some_iff.mp z).1; rw [List.length_range] at this; exact this
    rw [List.getElem?_range hi] at he
    cases he
    exact ⟨Evl.Ex.refl _, .int _⟩
  stop := fun O H h _ => by unfold rngL; rw [List.length_map, List.length_range]; exact Nat.le_refl _
def dRng1 (a : DAF) : DIF := fun g => (a g).bind fun xs => match xs with
  | [.int n] => if n ≤ 1000000 ∧ -1000000 ≤ n then some (rngL 0 n.toNat) else none
  | _ => none
def dRng2 (a : DAF) : DIF := fun g => (a g).bind fun xs => match xs with
  | [.int i, .int j] => if (i ≤ 1000000 ∧ -1000000 ≤ i) ∧ j ≤ 1000000 ∧ -1000000 ≤ j then some (rngL i (j - i).toNat) else none
  | _ => none
theorem ir_rng1 {ta : TA} {a : DAF} (ha : AR K ta a) : IR K (iRng1 ta) (dRng1 a) := fun g ds h H0 Oc pins ow σ H R Q q => by
  unfold dRng1 at h
  cases ea : a g with
  | none => rw [ea] at h; cases h
  | some x =>
    rw [ea] at h
    simp only [Option.bind_some] at h
    split at h
    · rename_i n
      split at h
      · rename_i hn
        cases h
        refine ha g _ ea H0 Oc pins ow σ H R _ fun vs H1 e1 r1 => ?_
        cases r1 with
        | cons r rr =>
          cases rr; cases r
          exact ⟨n, rfl, by omega, by omega, q _ H1 [] e1 (fun p hp => by cases hp) (wk_rng 0 _)⟩
      · cases h
    · cases h
theorem ir_rng2 {ta : TA} {a : DAF} (ha : AR K ta a) : IR K (iRng2 ta) (dRng2 a) := fun g ds h H0 Oc pins ow σ H R Q q => by
  unfold dRng2 at h
  cases ea : a g with
  | none => rw [ea] at h; cases h
  | some x =>
    rw [ea] at h
    simp only [Option.bind_some] at h
    split at h
    · rename_i i j
      split at h
      · rename_i hn
        cases h
        refine ha g _ ea H0 Oc pins ow σ H R _ fun vs H1 e1 r1 => ?_
        cases r1 with
        | cons r rr =>
          cases rr with
          | cons r' rr =>
            cases rr; cases r; cases r'
            exact ⟨i, j, rfl, ⟨by omega, by omega, by omega, by omega⟩, q _ H1 [] e1 (fun p hp => by cases hp) (wk_rng i _)⟩
      · cases h
    · cases h
/-- enumerate(a list) -/
def enumL : Nat → List D → List D
  | _, [] => []
  | n, d :: ds => .tup [.int (n : Int), d] :: enumL (n + 1) ds
theorem enumL_len : ∀ (n : Nat) (ds : List D), (enumL n ds).length = ds.length
  | _, [] => rfl
  | n, d :: ds => congrArg (· + 1) (enumL_len (n + 1) ds)
theorem enumL_get : ∀ (n : Nat) (ds : List D) (i : Nat) (e : D), (enumL n ds)[i]? = some e → ∃ d, ds[i]? = some d ∧ e = .tup [.int ((n + i : Nat) : Int), d]
  | _, [], i, e, h => by simp [enumL] at h
  | n, d :: ds, 0, e, h => by
    simp [enumL] at h
    exact ⟨d, rfl, h.symm⟩
  | n, d :: ds, i + 1, e, h => by
    have h : (enumL (n + 1) ds)[i]? = some e := h
    obtain ⟨d', h1, h2⟩ := enumL_get (n + 1) ds i e h
    exact ⟨d', h1, by rw [h2]; have : n + 1 + i = n + (i + 1) := by omega
                      rw [this]⟩
def dEnum (a : DAF) : DIF := fun g => (a g).bind fun xs => match xs with
  | [.lst ds] => some (enumL 0 ds)
  | [.tup ds] => some (enumL 0 ds)
  | _ => none
theorem wk_enum {a : Addr} {ds : List D} : Wk K (Ite K a) (enumL 0 ds) [(.ref a, .lst ds)] where
  go := fun O i H hi h _ => by
    have r := h _ List.mem_cons_self
    cases r with
    | @lst _ xs _ n e r =>
      rw [enumL_len] at hi
      have : i < xs.length := by rw [r.len]; exact hi
      exact ⟨xs, xs[i], .of e, List.getElem?_eq_getElem this⟩
  yld := fun O i H w H' e o h y he => by
    have r := h _ List.mem_cons_self
    cases r with
    | @lst _ xs _ n e r =>
      obtain ⟨T, x, rfl, hT, rfl, y⟩ := y
      obtain ⟨d, h1, rfl⟩ := enumL_get 0 ds i _ he
      obtain ⟨u, e1, e2⟩ := r.get h1
      have e3 := y xs (.of e)
      rw [e1] at e3
      cases e3
      have ex := Evl.Ex.new (o := .tup [.int (i : Nat), x]) hT
      rw [Nat.zero_add]
      exact ⟨ex, .tup (fun z => (o T z).1 hT) upd_same (.cons (.int _) (.cons (e2.ex ex) .nil))⟩
  stop := fun O H h _ => by
    have r := h _ List.mem_cons_self
    cases r with
    | lst n e r =>
      rw [enumL_len]
      exact ⟨_, .of e, by rw [r.len]; exact Nat.le_refl _⟩
theorem wk_enumT {a : Addr} {ds : List D} : Wk K (TS.IteT K a) (enumL 0 ds) [(.ref a, .tup ds)] where
  go := fun O i H hi h _ => by
    have r := h _ List.mem_cons_self
    cases r with
    | @tup _ xs _ n e r =>
      rw [enumL_len] at hi
      have : i < xs.length := by rw [r.len]; exact hi
      exact ⟨xs, xs[i], .of e, List.getElem?_eq_getElem this⟩
  yld := fun O i H w H' e o h y he => by
    have r := h _ List.mem_cons_self
    cases r with
    | @tup _ xs _ n e r =>
      obtain ⟨T, x, rfl, hT, rfl, y⟩ := y
      obtain ⟨d, h1, rfl⟩ := enumL_get 0 ds i _ he
      obtain ⟨u, e1, e2⟩ := r.get h1
      have e3 := y xs (.of e)
      rw [e1] at e3
      cases e3
      have ex := Evl.Ex.new (o := .tup [.int (i : Nat), x]) hT
      rw [Nat.zero_add]
      exact ⟨ex, .tup (fun z => (o T z).1 hT) upd_same (.cons (.int _) (.cons (e2.ex ex) .nil))⟩
  stop := fun O H h _ => by
    have r := h _ List.mem_cons_self
    cases r with
    | tup n e r =>
      rw [enumL_len]
      exact ⟨_, .of e, by rw [r.len]; exact Nat.le_refl _⟩
theorem ir_enum {ta : TA} {a : DAF} (ha : AR K ta a) : IR K (TS.iEnumA K ta) (dEnum a) := fun g ds h H0 Oc pins ow σ H R Q q => by
  unfold dEnum at h
  cases ea : a g with
  | none => rw [ea] at h; cases h
  | some x =>
    rw [ea] at h
    simp only [Option.bind_some] at h
    split at h
    · cases h
      refine ha g _ ea H0 Oc pins ow σ H R _ fun vs H1 e1 r1 => ?_
      cases r1 with
      | cons r rr =>
        have r0 := r
        cases rr
        cases r with
        | @lst a xs _ n e r => exact .inl ⟨a, xs, rfl, .of e, q _ H1 _ e1 (fun p hp => by rw [List.mem_singleton.mp hp]; exact r0) wk_enum⟩
    · cases h
      refine ha g _ ea H0 Oc pins ow σ H R _ fun vs H1 e1 r1 => ?_
      cases r1 with
      | cons r rr =>
        have r0 := r
        cases rr
        cases r with
        | @tup a xs _ n e r => exact .inr ⟨a, xs, rfl, .of e, q _ H1 _ e1 (fun p hp => by rw [List.mem_singleton.mp hp]; exact r0) wk_enumT⟩
    · cases h
end

/-! ### targets -/
abbrev DGF : Type := D → Gm → Option Gm
abbrev DGFs : Type := List D → Gm → Option Gm
def dName (i : Nat) : DGF := fun d g => if okSlot g i = true then some (g.set i (some (.v d))) else none
section
variable {K : PySem.W.Frag}
def dgNil : DGFs := fun ds g => match ds with
  | [] => some g
  | _ => none
def dgCons (f : DGF) (r : DGFs) : DGFs := fun ds g => match ds with
  | d :: ds => (f d g).bind fun g1 => r ds g1
  | [] => none
end
section
variable {K : PySem.W.Frag}
/-- targets drop what their slots owned, no more: said with the owners told -/
def GR' (K : PySem.W.Frag) (tg : TG) (f : DGF) : Prop := ∀ d g g', f d g = some g' → ∀ H0 Oc pins ow σ H v, Reps K H0 Oc pins ow σ H g → Rp K (OO Oc ow) H v d → ∀ Q : L2.St → Hp → Prop,
  (∀ ow' σ', (∀ i a, ow' i = some a → ow i = some a) → Reps K H0 Oc pins ow' σ' H g' → Q σ' H) → tg v σ H Q
def GRs' (K : PySem.W.Frag) (tg : TGs) (f : DGFs) : Prop := ∀ ds g g', f ds g = some g' → ∀ H0 Oc pins ow σ H vs, Reps K H0 Oc pins ow σ H g → RpA K (OO Oc ow) H vs ds → ∀ Q : L2.St → Hp → Prop,
  (∀ ow' σ', (∀ i a, ow' i = some a → ow i = some a) → Reps K H0 Oc pins ow' σ' H g' → Q σ' H) → tg vs σ H Q
theorem gr'_name (i : Nat) : GR' K (gName i) (dName i) := fun d g g' h H0 Oc pins ow σ H v R r Q q => by
  unfold dName at h
  split at h
  · rename_i hi
    cases h
    exact q _ _ (fun j a z => (dropW_of z).2) (R.setV hi r)
  · cases h
theorem grs'_nil : GRs' K gNil dgNil := fun ds g g' h H0 Oc pins ow σ H vs R r Q q => by
  unfold dgNil at h
  split at h
  · cases h; cases r
    exact ⟨rfl, q ow σ (fun _ _ z => z) R⟩
  · cases h
theorem grs'_cons {t : TG} {u : TGs} {f : DGF} {r : DGFs} (h1 : GR' K t f) (h2 : GRs' K u r) : GRs' K (gCons t u) (dgCons f r) := fun ds g g' h H0 Oc pins ow σ H vs R rr Q q => by
  unfold dgCons at h
  split at h
  · rename_i d ds
    cases e : f d g with
    | none => rw [e] at h; cases h
    | some g1 =>
      rw [e] at h
      simp only [Option.bind_some] at h
      cases rr with
      | cons a b =>
        refine ⟨_, _, rfl, h1 d g g1 e H0 Oc pins ow σ H _ R a _ fun ow1 σ1 k1 R1 => ?_⟩
        exact h2 ds g1 g' h H0 Oc pins ow1 σ1 H _ R1 (b.kp (R.kpDrop k1)) Q fun ow2 σ2 k2 R2 => q ow2 σ2 (fun i a z => k1 i a (k2 i a z)) R2
  · cases h
def dgTup (n : Nat) (r : DGFs) : DGF := fun d g => match d with
  | .tup ds => if ds.length = n then r ds g else none
  | _ => none
theorem gr'_tup {n : Nat} {u : TGs} {r : DGFs} (h2 : GRs' K u r) : GR' K (gTup K n u) (dgTup n r) := fun d g g' h H0 Oc pins ow σ H v R rr Q q => by
  unfold dgTup at h
  split at h
  · split at h
    · rename_i ds hn
      cases rr with
      | tup m e x => exact ⟨_, _, rfl, .of e, by rw [x.len]; exact hn, h2 ds g g' h H0 Oc pins ow σ H _ R x Q q⟩
    · cases h
  · cases h
end
end Zk
end

section
set_option Elab.async false
set_option linter.all false
set_option maxRecDepth 100000
set_option autoImplicit false
set_option maxHeartbeats 2000000
/-! Comprehensions; statements; loops; a def's promise. -/
namespace Zk
open PySem L2 PyProof.Rows
open Evl (Ex)

/-! ### what comes out of statements -/
inductive Out where
  | nx (g : Gm) | bk (g : Gm) | ct (g : Gm) | rt (w : Wd)
abbrev SF : Type := Gm → Option Out
def Post (K : PySem.W.Frag) (H0 : Hp) (Oc : Addr → Prop) (pins : Pn) (De : Ends) : Out → Prop
  | .nx g => ∀ ow σ H, Reps K H0 Oc pins ow σ H g → De.nx σ H
  | .bk g => ∀ ow σ H, Reps K H0 Oc pins ow σ H g → De.bk σ H
  | .ct g => ∀ ow σ H, Reps K H0 Oc pins ow σ H g → De.ct σ H
  | .rt (.v d) => ∀ v H, Ex H0 H → Rp K Oc H v d → De.rt v H
  | .rt (.o d) => ∀ p H, Ex H0 H → H0 p = none → RpO K (fun a => Oc a ∨ a = p) H p d → De.rt (.ref p) H
def SR (K : PySem.W.Frag) (ts : TS) (t : SF) : Prop := ∀ g out, t g = some out → ∀ H0 Oc pins ow σ H, Reps K H0 Oc pins ow σ H g → ∀ De : Ends, Post K H0 Oc pins De out → ts De σ H
/-- an expression that makes a thing of one's own -/
def EO (K : PySem.W.Frag) (te : TE) (t : DF) : Prop := ∀ g d, t g = some d → ∀ H0 Oc pins ow σ H, Reps K H0 Oc pins ow σ H g → ∀ Q : VK, (∀ p H', Ex H H' → H p = none → RpO K (fun a => OO Oc ow a ∨ a = p) H' p d → Q (.ref p) H') → te σ H Q

section
variable {K : PySem.W.Frag} {ta tb te : TE} {a b : DF} {ts tu : TS} {s u : SF} {tt : TT} {t : DTF}
theorem eo_lst {tr : TA} {s : DAF} (ha : AR K tr s) : EO K (tLst tr) (dN mkLst s) := fun g d h H0 Oc pins ow σ H R Q q => by
  unfold dN at h
  cases ea : s g with
  | none => rw [ea] at h; cases h
  | some x =>
    rw [ea] at h
    unfold mkLst at h
    simp only [Option.bind_some] at h
    split at h
    · rename_i hl
      cases h
      refine ha g x ea H0 Oc pins ow σ H R _ fun v H1 e1 r1 => ⟨by rw [r1.len]; exact Evl.sz_of hl, fun p hp => ?_⟩
      have e2 := Evl.Ex.new (o := .lst v) hp
      refine q _ _ (e1.trans e2) (Evl.fresh_back e1 hp) ⟨v, upd_same, r1.kp fun b o n e => ⟨fun z => ?_, e2 b o e⟩⟩
      rcases z with z | z
      · exact n z
      · rw [z, hp] at e; cases e
    · cases h
theorem eo_list {ta : TE} {a : DF} (ha : ER K ta a) : EO K (tCB (rListOf K) (tCons ta tNil)) (dN listD (aCons a aNil)) := fun g d h H0 Oc pins ow σ H R Q q => by
  unfold dN aCons aNil at h
  cases ea : a g with
  | none => rw [ea] at h; cases h
  | some x =>
    rw [ea] at h
    simp only [Option.bind_some] at h
    refine ha g x ea H0 Oc pins ow σ H R _ fun v H1 e1 r1 => ?_
    have fin : ∀ {xs : List V} {ds : List D}, RpA K (OO Oc ow) H1 xs ds → ∀ l, H1 l = none → d = .lst ds → Q (.ref l) (upd H1 l (.lst xs)) := fun {xs ds} r l hl hd => by
      have e2 := Evl.Ex.new (o := .lst xs) hl
      rw [hd] at q
      refine q _ _ (e1.trans e2) (Evl.fresh_back e1 hl) ⟨xs, upd_same, r.kp fun b o n e => ⟨fun z => ?_, e2 b o e⟩⟩
      rcases z with z | z
      · exact n z
      · rw [z, hl] at e; cases e
    unfold listD at h
    split at h
    · rename_i ds z
      cases z
      cases h
      cases r1 with
      | lst n e r => exact ⟨_, _, rfl, .inl (.of e), fun l hl => fin r l hl rfl⟩
    · rename_i ds z
      cases z
      cases h
      cases r1 with
      | tup n e r => exact ⟨_, _, rfl, .inr (.of e), fun l hl => fin r l hl rfl⟩
    · cases h

/-! ### comprehensions -/
/-- the comprehension's items -/
def lcL (tg : DGF) (tt : DTF) (te : DF) (g : Gm) : List D → Option (List D)
  | [] => some []
  | d :: ds => (tg d g).bind fun g1 => (tt g1).bind fun b => if b = true then (te g1).bind fun e => (lcL tg tt te g ds).map (e :: ·) else lcL tg tt te g ds
def free (g : Gm) (vs : List Nat) : Bool := vs.all fun v => !ownAt g v
def wipeG (g : Gm) : List Nat → Gm
  | [] => g
  | v :: vs => (wipeG g vs).set v none
def dLc (it : DIF) (tg : DGF) (tt : DTF) (te : DF) (vs : List Nat) : DF := fun g => if free g vs = true then (it g).bind fun ds => if ds.length ≤ 100000 then (lcL tg tt te (wipeG g vs) ds).map .lst else none else none
def dYes : DTF := fun _ => some true
theorem tr_yes : TR K tYes dYes := fun g b h H0 Oc pins ow σ H R Q q => by cases h; exact q H (Evl.Ex.refl H)
theorem wipe_get (σ : L2.St) : ∀ (vs : List Nat) (i : Nat), (L2.wipe σ vs)[i]? = if i ∈ vs then (if i < σ.length then some none else none) else σ[i]?
  | [], i => by simp [L2.wipe]
  | v :: vs, i => by
    show ((L2.wipe σ vs).set v none)[i]? = _
    rw [List.getElem?_set, L2.wipe_length, wipe_get σ vs i]
    by_cases h : v = i
    · subst h
      simp
    · rw [if_neg h]
      have : (i ∈ v :: vs) = (i ∈ vs) := by
        rw [List.mem_cons]
        exact propext ⟨fun q => q.resolve_left (fun z => h z.symm), .inr⟩
      simp only [this]
theorem wipe_set (σ τ : L2.St) (vs : List Nat) {j : Nat} {x : Option V} (hj : j ∈ vs) (h : L2.wipe τ vs = L2.wipe σ vs) : L2.wipe (τ.set j x) vs = L2.wipe σ vs := by
  rw [← h]
  apply List.ext_getElem?
  intro i
  rw [wipe_get, wipe_get]
  by_cases hi : i ∈ vs
  · rw [if_pos hi, if_pos hi, List.length_set]
  · rw [if_neg hi, if_neg hi, List.getElem?_set_ne (fun z => hi (by rw [← z]; exact hj))]
theorem wipe_wipe (σ : L2.St) (vs : List Nat) : L2.wipe (L2.wipe σ vs) vs = L2.wipe σ vs := by
  apply List.ext_getElem?
  intro i
  rw [wipe_get, wipe_get]
  by_cases hi : i ∈ vs
  · rw [if_pos hi, if_pos hi, L2.wipe_length]
  · rw [if_neg hi, if_neg hi]
theorem wipeG_length (g : Gm) : ∀ vs : List Nat, (wipeG g vs).length = g.length
  | [] => rfl
  | v :: vs => by unfold wipeG; rw [List.length_set, wipeG_length g vs]
theorem wipeG_get (g : Gm) : ∀ (vs : List Nat) (i : Nat), (wipeG g vs)[i]? = if i ∈ vs then (if i < g.length then some none else none) else g[i]?
  | [], i => by simp [wipeG]
  | v :: vs, i => by
    show ((wipeG g vs).set v none)[i]? = _
    rw [List.getElem?_set, wipeG_length, wipeG_get g vs i]
    by_cases h : v = i
    · subst h
      simp
    · rw [if_neg h]
      have : (i ∈ v :: vs) = (i ∈ vs) := by
        rw [List.mem_cons]
        exact propext ⟨fun q => q.resolve_left (fun z => h z.symm), .inr⟩
      simp only [this]
theorem free_at {g : Gm} {vs : List Nat} (h : free g vs = true) {v : Nat} (hv : v ∈ vs) (d : D) : g[v]? ≠ some (some (.o d)) := fun e => by
  have := List.all_eq_true.mp h v hv
  unfold ownAt at this
  rw [e] at this
  cases this
theorem wipeG_not {g : Gm} {vs : List Nat} {v : Nat} (hv : v ∈ vs) (d : Wd) : (wipeG g vs)[v]? ≠ some (some d) := fun e => by
  rw [wipeG_get, if_pos hv] at e
  split at e <;> cases e
theorem Reps.wipe {H0 H : Hp} {Oc : Addr → Prop} {pins : Pn} {ow : OW} {σ : L2.St} {g : Gm} (R : Reps K H0 Oc pins ow σ H g) {vs : List Nat} (hf : free g vs = true) : Reps K H0 Oc pins ow (L2.wipe σ vs) H (wipeG g vs) where
  len := by rw [L2.wipe_length, wipeG_length]; exact R.len
  ex := R.ex
  oc := R.oc
  fr := R.fr
  inj := R.inj
  is := fun i a h => by
    obtain ⟨d, e⟩ := R.is i a h
    have : i ∉ vs := fun z => free_at hf z d e
    rw [wipeG_get, if_neg this]
    exact ⟨d, e⟩
  val := fun i d h => by
    have : i ∉ vs := fun z => wipeG_not z _ h
    rw [wipeG_get, if_neg this] at h
    rw [wipe_get, if_neg this]
    exact R.val i d h
  own := fun i d h => by
    have : i ∉ vs := fun z => wipeG_not z _ h
    rw [wipeG_get, if_neg this] at h
    rw [wipe_get, if_neg this]
    exact R.own i d h
  pin := R.pin
  slf := R.slf
/-- a target that stores into the comprehension's own slots alone -/
def GRc (K : PySem.W.Frag) (tg : TG) (f : DGF) (vs : List Nat) : Prop := ∀ d g g', (∀ v ∈ vs, ∀ d', g[v]? ≠ some (some (Wd.o d'))) → f d g = some g' → ∀ H0 Oc pins ow σ H v, Reps K H0 Oc pins ow σ H g → Rp K (OO Oc ow) H v d → ∀ Q : L2.St → Hp → Prop,
  (∀ σ', Reps K H0 Oc pins ow σ' H g' → L2.wipe σ' vs = L2.wipe σ vs → (∀ v ∈ vs, ∀ d', g'[v]? ≠ some (some (Wd.o d'))) → Q σ' H) → tg v σ H Q
theorem dropW_id {H0 H : Hp} {Oc : Addr → Prop} {pins : Pn} {ow : OW} {σ : L2.St} {g : Gm} (R : Reps K H0 Oc pins ow σ H g) {j : Nat} (h : ∀ d', g[j]? ≠ some (some (Wd.o d'))) : dropW ow j = ow := by
  funext i
  unfold dropW
  split
  · rename_i e
    cases q : ow i with
    | none => rfl
    | some a =>
      obtain ⟨d, hd⟩ := R.is i a q
      rw [e] at hd
      exact absurd hd (h d)
  · rfl
theorem grc_name {j : Nat} {vs : List Nat} (hj : j ∈ vs) : GRc K (gName j) (dName j) vs := fun d g g' hn h H0 Oc pins ow σ H v R r Q q => by
  unfold dName at h
  split at h
  · rename_i hi
    cases h
    have R1 := R.setV hi r
    rw [dropW_id R (hn j hj)] at R1
    refine q _ R1 (wipe_set σ σ vs hj rfl) fun w hw d' z => ?_
    by_cases e : w = j
    · rw [e, List.getElem?_set_self (okSlot_lt hi)] at z; cases z
    · rw [List.getElem?_set_ne (Ne.symm e)] at z; exact hn w hw d' z
  · cases h
theorem grc_tup2 {i j : Nat} {vs : List Nat} (hi : i ∈ vs) (hj : j ∈ vs) : GRc K (gTup K 2 (gCons (gName i) (gCons (gName j) gNil))) (dgTup 2 (dgCons (dName i) (dgCons (dName j) dgNil))) vs := fun d g g' hn h H0 Oc pins ow σ H v R r Q q => by
  unfold dgTup at h
  split at h
  · rename_i ds
    split at h
    · rename_i hl
      match ds, hl with
      | [d1, d2], _ =>
        have h : ((dName i d1 g).bind fun g1 => (dName j d2 g1).bind fun g2 => some g2) = some g' := h
        cases e1 : dName i d1 g with
        | none => rw [e1] at h; cases h
        | some g1 =>
          rw [e1] at h
          cases e2 : dName j d2 g1 with
          | none => simp [e2] at h
          | some g2 =>
            simp only [Option.bind_some, e2] at h
            cases h
            have fin : ∀ (a : Addr) xs, SqT K H a xs → RpA K (OO Oc ow) H xs [d1, d2] → gTup K 2 (gCons (gName i) (gCons (gName j) gNil)) (.ref a) σ H Q := fun a xs hs x => by
              cases x with
              | cons x1 xr =>
                cases xr with
                | cons x2 xr =>
                  cases xr
                  exact ⟨_, _, rfl, hs, rfl, _, _, rfl, grc_name hi d1 g g1 hn e1 H0 Oc pins ow σ H _ R x1 _ fun σ1 R1 w1 hn1 =>
                    ⟨_, _, rfl, grc_name hj d2 g1 g' hn1 e2 H0 Oc pins ow σ1 H _ R1 x2 _ fun σ2 R2 w2 hn2 => ⟨rfl, q σ2 R2 (w2.trans w1) hn2⟩⟩⟩
            cases r with
            | tup m e x => exact fin _ _ (.of e) x
    · cases h
  · cases h
open Classical in
theorem Reps.rebase {H0 H H2 : Hp} {Oc : Addr → Prop} {pins : Pn} {ow : OW} {σ : L2.St} {g : Gm} {Dl : Addr} (R : Reps K H0 Oc pins ow σ H g) (hD : H Dl = none) (e : Ex H H2) (h2 : Lv H2 Dl) :
    ∃ B, Reps K B (fun a => Oc a ∨ a = Dl) pins ow σ H2 g := by
  have k : Kp (OO Oc ow) H (OO (fun a => Oc a ∨ a = Dl) ow) H2 := fun a o n h => ⟨fun z => by
    rcases z with (z | z) | z
    · exact n (.inl z)
    · rw [z, hD] at h; cases h
    · exact n (.inr z), e a o h⟩
  refine ⟨fun b => if ∃ i, ow i = some b then none else H2 b, ?_⟩
  exact {
    len := R.len
    ex := fun a o h => by
      have h : (if ∃ i, ow i = some a then none else H2 a) = some o := h
      split at h
      · cases h
      · exact h
    oc := fun a h => by
      have nw : ¬ ∃ i, ow i = some a := fun ⟨i, z⟩ => by
        rcases h with h | h
        · exact (R.oc a h).1 (R.fr i a z).1
        · rw [h] at z; exact (R.fr i Dl z).2.1 hD
      show (if ∃ i, ow i = some a then none else H2 a) ≠ none ∧ ∀ xs, (if ∃ i, ow i = some a then none else H2 a) ≠ some (.tup xs)
      rw [if_neg nw]
      rcases h with h | h
      · exact (R.oo a (.inl h)).ex e
      · rw [h]; exact h2
    fr := fun i a h => ⟨if_pos ⟨i, h⟩, (R.fr i a h).2.ex e⟩
    inj := R.inj
    is := R.is
    val := fun i d h => let ⟨v, h1, h2⟩ := R.val i d h; ⟨v, h1, h2.kp k⟩
    own := fun i d h => let ⟨a, h1, h2, h3⟩ := R.own i d h; ⟨a, h1, h2, h3.kp k (by
      cases y : H a with
      | none => exact absurd y h3.there
      | some o => exact e a o y)⟩
    pin := fun p h => (R.pin p h).kp k
    slf := R.slf }
/-- the comprehension, at the new list's place -/
theorem lc_go {J : It} {tg : TG} {f : DGF} {tte : TT} {ft : DTF} {tee : TE} {fe : DF} {vs : List Nat} {ds es : List D} {ps : List (V × D)} {H0 H1 : Hp} {Oc : Addr → Prop} {pins : Pn} {ow : OW} {σ : L2.St} {g : Gm} {Q : VK}
    {Φ : Hp → Prop} (hw : WkP K J ds ps Φ) (hg : GRc K tg f vs) (ht : TR K tte ft) (he : ER K tee fe) (R : Reps K H0 Oc pins ow σ H1 g) (hf : free g vs = true) (hps : ∀ p ∈ ps, Rp K (OO Oc ow) H1 p.1 p.2)
    (hz : ds.length ≤ 100000) (h : lcL f ft fe (wipeG g vs) ds = some es) (hΦ : ∀ H, Ex H1 H → Φ H) (hq : ∀ p H', H1 p = none → Ex H1 H' → RpO K (fun a => OO Oc ow a ∨ a = p) H' p (.lst es) → Q (.ref p) H') :
    ∀ Dl, H1 Dl = none → ∃ W : Nat → Nat → Hp → Prop, (∃ m, W 0 m (L2.upd H1 Dl (.lst []))) ∧ ∀ i m H, W i m H →
      (J.stop i H ∧ Q (.ref Dl) H) ∨ (J.go i H ∧ ∃ Nx : Hp → Prop, (∀ H', Nx H' → ∃ m', m' < m ∧ W (i + 1) m' H') ∧ ∀ x H', J.yld i H x H' → tg x (L2.wipe σ vs) H' fun σ2 H2 => L2.wipe σ2 vs = L2.wipe σ vs ∧ tte σ2 H2 fun b H3 =>
        if b = true then tee σ2 H3 fun y H4 => ∃ acc, H4 Dl = some (.lst acc) ∧ acc.length < sizeLine ∧ Nx (L2.upd H4 Dl (.lst (acc ++ [y]))) else Nx H3) := by
  intro Dl hD
  have oeq : ∀ a, OO (fun a => Oc a ∨ a = Dl) ow a ↔ (OO Oc ow a ∨ a = Dl) := fun a =>
    ⟨fun z => z.elim (fun z => z.elim (fun z => .inl (.inl z)) .inr) (fun z => .inl (.inr z)), fun z => z.elim (fun z => z.elim (fun z => .inl (.inl z)) (fun z => .inr z)) (fun z => .inl (.inr z))⟩
  -- what is held between turns: made so far
  let P : Nat → Hp → Prop := fun i H => ∃ acc done_ rest, Ex H1 H ∧ H Dl = some (.lst acc) ∧ RpA K (OO (fun a => Oc a ∨ a = Dl) ow) H acc done_ ∧ lcL f ft fe (wipeG g vs) (ds.drop i) = some rest ∧ es = done_ ++ rest ∧ done_.length ≤ i
  refine ⟨fun i m H => m = ds.length - i ∧ i ≤ ds.length ∧ P i H, ⟨ds.length, rfl, Nat.zero_le _, ⟨[], [], es, Evl.Ex.new hD, upd_same, .nil, h, rfl, Nat.le_refl _⟩⟩, ?_⟩
  rintro i m H ⟨rfl, hi, ⟨acc, dn, rest, e1, hl, ra, hr, hes, hln⟩⟩
  obtain ⟨B, RB⟩ := R.rebase hD e1 ⟨by rw [hl]; exact fun z => (by cases z), by rw [hl]; exact fun _ z => (by cases z)⟩
  have kps : ∀ p ∈ ps, Rp K (OO (fun a => Oc a ∨ a = Dl) ow) H p.1 p.2 := fun p hp => (hps p hp).kp fun a o n q => ⟨fun z => (by
    rcases (oeq a).mp z with z | z
    · exact n z
    · rw [z, hD] at q; cases q), e1 a o q⟩
  by_cases hlt : i < ds.length
  · refine .inr ⟨hw.go _ i H hlt kps (hΦ H e1), fun H' => P (i + 1) H', fun H' p => ⟨ds.length - (i + 1), by omega, rfl, hlt, p⟩, fun x H' y => ?_⟩
    have hd : ds[i]? = some ds[i] := List.getElem?_eq_getElem hlt
    obtain ⟨e2, rx⟩ := hw.yld _ i H x H' ds[i] RB.oo kps y hd
    have hdrop : ds.drop i = ds[i] :: ds.drop (i + 1) := by rw [List.drop_eq_getElem_cons hlt]
    rw [hdrop] at hr
    unfold lcL at hr
    cases e3 : f ds[i] (wipeG g vs) with
    | none => rw [e3] at hr; cases hr
    | some g1 =>
      rw [e3] at hr
      simp only [Option.bind_some] at hr
      cases e4 : ft g1 with
      | none => rw [e4] at hr; cases hr
      | some b =>
        rw [e4] at hr
        simp only [Option.bind_some] at hr
        have RW := ((RB.grow e2).wipe hf)
        refine hg ds[i] (wipeG g vs) g1 (fun v hv d' => wipeG_not hv _) e3 B _ pins ow _ H' x RW rx _ fun σ2 R2 w2 _ => ⟨w2.trans (wipe_wipe σ vs), ?_⟩
        refine ht g1 b e4 B _ pins ow σ2 H' R2 _ fun H3 e5 => ?_
        cases b with
        | true =>
          rw [if_pos rfl] at hr ⊢
          cases e6 : fe g1 with
          | none => rw [e6] at hr; cases hr
          | some e =>
            rw [e6] at hr
            simp only [Option.bind_some] at hr
            cases e7 : lcL f ft fe (wipeG g vs) (ds.drop (i + 1)) with
            | none => rw [e7] at hr; cases hr
            | some rest' =>
              rw [e7] at hr
              have hr2 : e :: rest' = rest := Option.some.inj hr
              refine he g1 e e6 B _ pins ow σ2 H3 (R2.grow e5) _ fun yv H4 e8 ry => ?_
              have hl4 : H4 Dl = some (.lst acc) := e8 _ _ (e5 _ _ (e2 _ _ hl))
              have k4 : Kp (OO (fun a => Oc a ∨ a = Dl) ow) H4 (OO (fun a => Oc a ∨ a = Dl) ow) (L2.upd H4 Dl (.lst (acc ++ [yv]))) := fun a o n q => ⟨n, by
                rw [upd_ne (fun z => n ((oeq a).mpr (.inr z)))]; exact q⟩
              refine ⟨acc, hl4, Evl.sz_lt (by rw [ra.len]; omega), ⟨acc ++ [yv], dn ++ [e], rest', Evl.Ex.mut (((e1.trans e2).trans e5).trans e8) hD, upd_same, ?_, e7, ?_, ?_⟩⟩
              · exact RpA.app ((((ra.ex e2).ex e5).ex e8).kp k4) (.one (ry.kp k4))
              · rw [hes, ← hr2, List.append_assoc]; rfl
              · rw [List.length_append, List.length_singleton]; omega
        | false =>
          rw [if_neg Bool.false_ne_true] at hr ⊢
          exact ⟨acc, dn, rest, (e1.trans e2).trans e5, e5 _ _ (e2 _ _ hl), (ra.ex e2).ex e5, hr, hes, by omega⟩
  · have hi2 : i = ds.length := by omega
    subst hi2
    refine .inl ⟨hw.stop _ H kps (hΦ H e1), ?_⟩
    rw [List.drop_length] at hr
    have hr' : rest = [] := (Option.some.inj hr).symm
    rw [hr', List.append_nil] at hes
    refine hq Dl H hD e1 ⟨acc, hl, ?_⟩
    rw [hes]
    exact ra.kp fun a o n q => ⟨fun z => n ((oeq a).mpr z), q⟩
theorem eo_lc {wi : TI} {it : DIF} {tg : TG} {f : DGF} {tte : TT} {ft : DTF} {tee : TE} {fe : DF} {vs : List Nat} (hi : IR K wi it) (hg : GRc K tg f vs) (ht : TR K tte ft) (he : ER K tee fe) : EO K (tLc wi tg tte tee vs) (dLc it f ft fe vs) := fun g d h H0 Oc pins ow σ H R Q q => by
  unfold dLc at h
  split at h
  · rename_i hf
    cases ei : it g with
    | none => rw [ei] at h; cases h
    | some ds =>
      rw [ei] at h
      simp only [Option.bind_some] at h
      split at h
      · rename_i hz
        cases el : lcL f ft fe (wipeG g vs) ds with
        | none => rw [el] at h; cases h
        | some es =>
          rw [el] at h
          cases h
          exact hi g ds ei H0 Oc pins ow σ H R _ fun J H1 ps e1 hps hw => lc_go hw hg ht he (R.grow e1) hf hps hz el (fun _ _ => trivial) fun p H' hp e' r => q p H' (e1.trans e') (Evl.fresh_back e1 hp) r
      · cases h
  · cases h
theorem er_of_eo (h : EO K te a) : ER K te a := fun g d e H0 Oc pins ow σ H R Q q => h g d e H0 Oc pins ow σ H R Q fun p H' e' hp r => q _ H' e' (by
  have n : ¬ OO Oc ow p := R.new hp
  cases d with
  | lst ds => obtain ⟨xs, h, r⟩ := r; exact .lst n h (r.kp fun a o z q => ⟨fun y => z (.inl y), q⟩)
  | ins C gs => obtain ⟨dx, fs, h, r⟩ := r; exact .ins n h (r.kp fun a o z q => ⟨fun y => z (.inl y), q⟩)
  | dct kvs => obtain ⟨xs, h, e1, r⟩ := r; exact .dct n h e1 (r.kp fun a o z q => ⟨fun y => z (.inl y), q⟩)
  | dck kvs => obtain ⟨xs, h, e1, r⟩ := r; exact .dck n h e1 (r.kp fun a o z q => ⟨fun y => z (.inl y), q⟩)
  | sti w ns => exact .sti n r
  | _ => exact r.elim)
end
end Zk
end

section
set_option Elab.async false
set_option linter.all false
set_option maxRecDepth 100000
set_option autoImplicit false
set_option maxHeartbeats 2000000
/-! Statements, loops, a def's promise, calls. -/
namespace Zk
open PySem L2 PyProof.Rows
open Evl (Ex)

section
variable {K : PySem.W.Frag} {ta tb te : TE} {a b : DF} {ts tu : TS} {s u : SF} {tt : TT} {t : DTF}
def sAsg (a : DF) (f : DGF) : SF := fun g => (a g).bind fun d => (f d g).map .nx
theorem sr_asg {tg : TG} {f : DGF} (ha : ER K te a) (hg : GR' K tg f) : SR K (tAsg te tg) (sAsg a f) := fun g out h H0 Oc pins ow σ H R De P => by
  unfold sAsg at h
  cases ea : a g with
  | none => rw [ea] at h; cases h
  | some d =>
    rw [ea] at h
    simp only [Option.bind_some] at h
    cases ef : f d g with
    | none => rw [ef] at h; cases h
    | some g1 =>
      rw [ef] at h
      cases h
      exact ha g d ea H0 Oc pins ow σ H R _ fun v H1 e1 r1 => hg d g g1 ef H0 Oc pins ow σ H1 v (R.grow e1) r1 _ fun ow' σ' _ R' => P ow' σ' H1 R'
/-- a slot is given a new thing of one's own -/
def sAsgO (a : DF) (i : Nat) : SF := fun g => (a g).bind fun d => if okSlot g i = true then some (.nx (g.set i (some (.o d)))) else none
theorem sr_asgO {i : Nat} (ha : EO K te a) : SR K (tAsg te (gName i)) (sAsgO a i) := fun g out h H0 Oc pins ow σ H R De P => by
  unfold sAsgO at h
  cases ea : a g with
  | none => rw [ea] at h; cases h
  | some d =>
    rw [ea] at h
    simp only [Option.bind_some] at h
    split at h
    · rename_i hi
      cases h
      exact ha g d ea H0 Oc pins ow σ H R _ fun p H1 e1 hp r1 => P _ _ H1 (R.setO hi hp e1 r1)
    · cases h
def sNext : SF := fun g => some (.nx g)
theorem sr_next : SR K tNext sNext := fun g out h H0 Oc pins ow σ H R De P => by cases h; exact P ow σ H R
def sBreak : SF := fun g => some (.bk g)
theorem sr_break : SR K tBreak sBreak := fun g out h H0 Oc pins ow σ H R De P => by cases h; exact P ow σ H R
def sCont : SF := fun g => some (.ct g)
def sNever : SF := fun _ => none
theorem sr_never : SR K tNever sNever := fun g out h => by cases h
def sThen (o : Out) (u : SF) : Option Out := match o with
  | .nx g => u g
  | .bk g => some (.bk g)
  | .ct g => some (.ct g)
  | .rt w => some (.rt w)
def sSeq (s u : SF) : SF := fun g => (s g).bind fun o => sThen o u
theorem sr_seq (h1 : SR K ts s) (h2 : SR K tu u) : SR K (tSeq ts tu) (sSeq s u) := fun g out h H0 Oc pins ow σ H R De P => by
  unfold sSeq at h
  cases e1 : s g with
  | none => rw [e1] at h; cases h
  | some o =>
    rw [e1] at h
    simp only [Option.bind_some] at h
    refine h1 g o e1 H0 Oc pins ow σ H R _ ?_
    cases o with
    | nx g1 => exact fun ow' σ' H' R' => h2 g1 out h H0 Oc pins ow' σ' H' R' De P
    | bk g1 => cases h; exact P
    | ct g1 => cases h; exact P
    | rt w =>
      cases h
      cases w with
      | v d => exact P
      | o d => exact P
def sRet (a : DF) : SF := fun g => (a g).map fun d => .rt (.v d)
theorem kp_oc (Oc : Addr → Prop) (ow : OW) (H : Hp) : Kp (OO Oc ow) H Oc H := fun a o n e => ⟨fun z => n (.inl z), e⟩
theorem sr_ret (ha : ER K te a) : SR K (tRet te) (sRet a) := fun g out h H0 Oc pins ow σ H R De P => by
  unfold sRet at h
  cases ea : a g with
  | none => rw [ea] at h; cases h
  | some d =>
    rw [ea] at h
    cases h
    exact ha g d ea H0 Oc pins ow σ H R _ fun v H1 e1 r1 => P v H1 (R.ex.trans e1) (r1.kp (kp_oc Oc ow H1))
def sRetO (a : DF) : SF := fun g => (a g).map fun d => .rt (.o d)
theorem sr_retO (ha : EO K te a) : SR K (tRet te) (sRetO a) := fun g out h H0 Oc pins ow σ H R De P => by
  unfold sRetO at h
  cases ea : a g with
  | none => rw [ea] at h; cases h
  | some d =>
    rw [ea] at h
    cases h
    exact ha g d ea H0 Oc pins ow σ H R _ fun p H1 e1 hp r1 => P p H1 (R.ex.trans e1) (R.fresh0 hp) (r1.kp (fun b o n q => ⟨fun z => n (z.imp .inl id), q⟩) rfl)
/-- return x, x a list of one's own -/
def sRetV (i : Nat) : SF := fun g => match g[i]? with
  | some (some (.o d)) => some (.rt (.o d))
  | _ => none
theorem sr_retV (i : Nat) : SR K (tRet (tVar i)) (sRetV i) := fun g out h H0 Oc pins ow σ H R De P => by
  unfold sRetV at h
  split at h
  · rename_i d hd
    cases h
    obtain ⟨p, h1, h2, h3⟩ := R.own i d hd
    refine ⟨.ref p, h2, P p H R.ex (R.fr i p h1).1 (h3.kp (fun b o n q => ⟨fun z => ?_, q⟩) rfl)⟩
    rcases z with z | z
    · exact n (.inl z)
    · exact n (.inr ⟨i, by rw [z]; exact h1⟩)
  · cases h
def sRetN : SF := fun _ => some (.rt (.v .non))
def sIf (t : DTF) (s u : SF) : SF := fun g => (t g).bind fun b => if b = true then s g else u g
theorem sr_if (ht : TR K tt t) (h1 : SR K ts s) (h2 : SR K tu u) : SR K (tIfS tt ts tu) (sIf t s u) := fun g out h H0 Oc pins ow σ H R De P => by
  unfold sIf at h
  cases ea : t g with
  | none => rw [ea] at h; cases h
  | some b =>
    rw [ea] at h
    simp only [Option.bind_some] at h
    refine ht g b ea H0 Oc pins ow σ H R _ fun H1 e1 => ?_
    cases b with
    | true =>
      rw [if_pos rfl] at h ⊢
      exact h1 g out h H0 Oc pins ow σ H1 (R.grow e1) De P
    | false =>
      rw [if_neg Bool.false_ne_true] at h ⊢
      exact h2 g out h H0 Oc pins ow σ H1 (R.grow e1) De P
/-- owned things read by name are handed on: known from here on -/
def sFrz (fz : List Nat) (s : SF) : SF := fun g => s (frzs g fz)
theorem sr_frz (fz : List Nat) (h1 : SR K ts s) : SR K ts (sFrz fz s) := fun g out h H0 Oc pins ow σ H R De P => by
  obtain ⟨ow', R'⟩ := R.frzs fz
  exact h1 _ out h H0 Oc pins ow' σ H R' De P
/-- xs.append(e) -/
def sApp (i : Nat) (a : DF) : SF := fun g => (a g).bind fun d => match g[i]? with
  | some (some (.o (.lst ds))) => if ds.length < 100000 then some (.nx (g.set i (some (.o (.lst (ds ++ [d])))))) else none
  | _ => none
theorem sr_app {i : Nat} (ha : ER K te a) : SR K (tDrop (tBM K "list" rAppend (tVar i) (tCons te tNil))) (sApp i a) := fun g out h H0 Oc pins ow σ H R De P => by
  unfold sApp at h
  cases ea : a g with
  | none => rw [ea] at h; cases h
  | some d =>
    rw [ea] at h
    simp only [Option.bind_some] at h
    split at h
    · rename_i ds hd
      split at h
      · rename_i hl
        cases h
        obtain ⟨p, h1, h2, xs, h3, h4⟩ := R.own i _ hd
        refine ⟨.ref p, h2, .inl ⟨rfl, _, .of h3⟩, ?_⟩
        refine ha g d ea H0 Oc pins ow σ H R _ fun v H1 e1 r1 => ?_
        have k : Kp (OO Oc ow) H1 (OO Oc ow) (upd H1 p (.lst (xs ++ [v]))) := fun b o n q => ⟨n, by rw [upd_ne (fun z => n (.inr ⟨i, by rw [z]; exact h1⟩))]; exact q⟩
        refine ⟨p, xs, v, rfl, rfl, e1 _ _ h3, Evl.sz_lt (by rw [h4.len]; exact hl), P ow σ _ ((R.grow e1).upd hd h1 ⟨xs ++ [v], upd_same, RpA.app ((h4.ex e1).kp k) (.one (r1.kp k))⟩)⟩
      · cases h
    · cases h
/-- xs[i] = e -/
def sSetI (i : Nat) (b : DF) (a : DF) : SF := fun g => (a g).bind fun d => (b g).bind fun x => match x, g[i]? with
  | .int k, some (some (.o (.lst ds))) => (ixN ds.length k).map fun j => .nx (g.set i (some (.o (.lst (ds.set j d)))))
  | _, _ => none
theorem sr_setI {i : Nat} (hb : ER K tb b) (ha : ER K te a) : SR K (tAsg te (gSub (tVar i) tb rSetL)) (sSetI i b a) := fun g out h H0 Oc pins ow σ H R De P => by
  unfold sSetI at h
  cases ea : a g with
  | none => rw [ea] at h; cases h
  | some d =>
    rw [ea] at h
    simp only [Option.bind_some] at h
    cases eb : b g with
    | none => rw [eb] at h; cases h
    | some x =>
      rw [eb] at h
      simp only [Option.bind_some] at h
      split at h
      · rename_i k ds hd
        cases ej : ixN ds.length k with
        | none => rw [ej] at h; cases h
        | some j =>
          rw [ej] at h
          cases h
          obtain ⟨p, h1, h2, xs, h3, h4⟩ := R.own i _ hd
          refine ha g d ea H0 Oc pins ow σ H R _ fun v H1 e1 r1 => ⟨.ref p, h2, ?_⟩
          refine hb g _ eb H0 Oc pins ow σ H1 (R.grow e1) _ fun w H2 e2 r2 => ?_
          cases r2
          have k' : Kp (OO Oc ow) H2 (OO Oc ow) (upd H2 p (.lst (xs.set j v))) := fun b o n q => ⟨n, by rw [upd_ne (fun z => n (.inr ⟨i, by rw [z]; exact h1⟩))]; exact q⟩
          exact ⟨p, xs, k, j, rfl, rfl, e2 _ _ (e1 _ _ h3), by rw [h4.len]; exact ej, P ow σ _ (((R.grow e1).grow e2).upd hd h1 ⟨xs.set j v, upd_same, RpA.set ((r1.ex e2).kp k') j (((h4.ex e1).ex e2).kp k')⟩)⟩
      · cases h
/-- self.f = e -/
def putD (f : Str) (d : D) : List (Str × D) → List (Str × D)
  | [] => [(f, d)]
  | (n, e) :: r => if n = f then (n, d) :: r else (n, e) :: putD f d r
theorem RpF.put {O : Addr → Prop} {H : Hp} {f : Str} {v : V} {d : D} (r : Rp K O H v d) : ∀ {fs : List (Str × V)} {gs : List (Str × D)}, RpF K O H fs gs → RpF K O H (putF f v fs) (putD f d gs)
  | _, _, .nil => .cons r .nil
  | _, _, .cons (n := n) h t => by
    unfold putF putD
    by_cases e : n = f
    · rw [if_pos e, if_pos e]; exact .cons r t
    · rw [if_neg e, if_neg e]; exact .cons h (t.put r)
theorem RpF.len {O : Addr → Prop} {H : Hp} : ∀ {fs : List (Str × V)} {gs : List (Str × D)}, RpF K O H fs gs → fs.length = gs.length
  | _, _, .nil => rfl
  | _, _, .cons _ t => congrArg (· + 1) t.len
def sFldD (C : Addr) (i : Nat) (f : Str) (a : DF) : SF := fun g => (a g).bind fun d => match g[i]? with
  | some (some (.o (.ins C' gs))) => if C' = C ∧ gs.length < 1000 then some (.nx (g.set i (some (.o (.ins C (putD f d gs)))))) else none
  | _ => none
theorem sr_fld {C : Addr} {i : Nat} {f : Str} (cl : Cls K C) (na : NoAttr K C f) (ha : ER K te a) : SR K (sFld K (tVar i) te f) (sFldD C i f a) := fun g out h H0 Oc pins ow σ H R De P => by
  unfold sFldD at h
  cases ea : a g with
  | none => rw [ea] at h; cases h
  | some d =>
    rw [ea] at h
    simp only [Option.bind_some] at h
    split at h
    · rename_i C' gs hd
      split at h
      · rename_i hc
        obtain ⟨rfl, hl⟩ := hc
        cases h
        obtain ⟨p, h1, h2, dx, fs, h3, h4⟩ := R.own i _ hd
        refine ha g d ea H0 Oc pins ow σ H R _ fun v H1 e1 r1 => ⟨.ref p, h2, p, C', dx, fs, rfl, e1 _ _ h3, cl, na, by rw [h4.len]; exact hl, ?_⟩
        have k : Kp (OO Oc ow) H1 (OO Oc ow) (upd H1 p (.ins C' dx (putF f v fs))) := fun b o n q => ⟨n, by rw [upd_ne (fun z => n (.inr ⟨i, by rw [z]; exact h1⟩))]; exact q⟩
        exact P ow σ _ ((R.grow e1).upd hd h1 ⟨dx, putF f v fs, upd_same, RpF.put (r1.kp k) ((h4.ex e1).kp k)⟩)
      · cases h
    · cases h
/-! ### for -/
def loopD (f : DGF) (s : SF) : List D → SF
  | [], g => some (.nx g)
  | d :: ds, g => (f d g).bind fun g1 => (s g1).bind fun o => match o with
    | .nx g2 => loopD f s ds g2
    | .ct g2 => loopD f s ds g2
    | .bk g2 => some (.nx g2)
    | .rt w => some (.rt w)
def sFor (it : DIF) (f : DGF) (s : SF) : SF := fun g => (it g).bind fun ds => loopD f s ds g
theorem sr_for {wi : TI} {it : DIF} {tg : TG} {f : DGF} (hi : IR K wi it) (hg : GR' K tg f) (hs : SR K ts s) : SR K (tFor wi tg ts) (sFor it f s) := fun g out h H0 Oc pins ow σ H R De P => by
  unfold sFor at h
  cases ei : it g with
  | none => rw [ei] at h; cases h
  | some ds =>
    rw [ei] at h
    simp only [Option.bind_some] at h
    refine hi g ds ei H0 Oc pins ow σ H R _ fun J H1 ps e1 hps hw => ?_
    let Pv : Nat → L2.St → Hp → Prop := fun i σ' H' => ∃ ow' g', Reps K H0 Oc (pins.more ps) ow' σ' H' g' ∧ loopD f s (ds.drop i) g' = some out
    refine ⟨fun i m σ' H' => m = ds.length - i ∧ i ≤ ds.length ∧ Pv i σ' H', ⟨ds.length, rfl, Nat.zero_le _, ⟨ow, g, (R.grow e1).morePins hps, h⟩⟩, ?_⟩
    rintro i m σ' H' ⟨rfl, hi, ⟨ow', g', R', hl⟩⟩
    have kps : ∀ p ∈ ps, Rp K (OO Oc ow') H' p.1 p.2 := fun p hp => R'.pin p (List.mem_append_left _ hp)
    by_cases hlt : i < ds.length
    · refine .inr ⟨hw.go _ i H' hlt kps trivial, Pv (i + 1), fun σ2 H2 p => ⟨ds.length - (i + 1), by omega, rfl, hlt, p⟩, fun x H2 y => ?_⟩
      have hd : ds[i]? = some ds[i] := List.getElem?_eq_getElem hlt
      obtain ⟨e2, rx⟩ := hw.yld _ i H' x H2 ds[i] R'.oo kps y hd
      rw [show ds.drop i = ds[i] :: ds.drop (i + 1) from List.drop_eq_getElem_cons hlt] at hl
      unfold loopD at hl
      cases e3 : f ds[i] g' with
      | none => rw [e3] at hl; cases hl
      | some g1 =>
        rw [e3] at hl
        simp only [Option.bind_some] at hl
        cases e4 : s g1 with
        | none => rw [e4] at hl; cases hl
        | some o =>
          rw [e4] at hl
          simp only [Option.bind_some] at hl
          refine hg ds[i] g' g1 e3 H0 Oc _ ow' σ' H2 x (R'.grow e2) rx _ fun ow2 σ2 _ R2 => ?_
          refine hs g1 o e4 H0 Oc _ ow2 σ2 H2 R2 _ ?_
          cases o with
          | nx g2 => exact fun ow3 σ3 H3 R3 => ⟨ow3, g2, R3, hl⟩
          | ct g2 => exact fun ow3 σ3 H3 R3 => ⟨ow3, g2, R3, hl⟩
          | bk g2 =>
            cases hl
            exact fun ow3 σ3 H3 R3 => P ow3 σ3 H3 R3.lessPins
          | rt w =>
            cases hl
            cases w with
            | v d => exact P
            | o d => exact P
    · have e : i = ds.length := by omega
      subst e
      refine .inl ⟨hw.stop _ H' kps trivial, ?_⟩
      rw [List.drop_length] at hl
      cases hl
      exact P ow' σ' H' R'.lessPins
end

/-! ### a def's promise -/
def Wd.d : Wd → D
  | .v d => d
  | .o d => d
def Ret (K : PySem.W.Frag) (H0 : Hp) (Oc : Addr → Prop) (Q : VK) : Wd → Prop
  | .v d => ∀ v H, Ex H0 H → Rp K Oc H v d → Q v H
  | .o d => ∀ p H, Ex H0 H → H0 p = none → RpO K (fun a => Oc a ∨ a = p) H p d → Q (.ref p) H
abbrev PF : Type := List D → Option Wd
def spG (K : PySem.W.Frag) (n : Nat) (gf : PF) : Sp := fun vs H Q _ => ∃ (Oc : Addr → Prop) (ds : List D) (w : Wd), vs.length = n ∧ (∀ a, Oc a → Lv H a) ∧ RpA K Oc H vs ds ∧ gf ds = some w ∧ Ret K H Oc Q w
def runG (m : Nat) (t : SF) : PF := fun ds => match t (ds.map (fun d => some (.v d)) ++ List.replicate m none) with
  | some (.rt w) => some w
  | some (.nx _) => some (.v .non)
  | _ => none
theorem reps_start {K : PySem.W.Frag} {H : Hp} {Oc : Addr → Prop} (oc : ∀ a, Oc a → Lv H a) (N : List Str) {vs : List V} {ds : List D} (r : RpA K Oc H vs ds) {m : Nat} (hm : N.length = vs.length + m) :
    Reps K H Oc ⟨[], none⟩ noOw (L2.start N vs) H (ds.map (fun d => some (.v d)) ++ List.replicate m none) where
  len := by
    unfold L2.start
    simp only [List.length_append, List.length_map, List.length_replicate]
    have := r.len
    omega
  ex := Evl.Ex.refl H
  oc := oc
  fr := fun i a h => by cases h
  inj := fun i j a h => by cases h
  is := fun i a h => by cases h
  val := fun i d h => by
    have k : Kp Oc H (OO Oc noOw) H := fun a o n e => ⟨fun z => z.elim n fun ⟨i, z⟩ => (by cases z), e⟩
    have hi : i < ds.length := by
      by_cases hi : i < ds.length
      · exact hi
      · rw [List.getElem?_append_right (by simp; omega)] at h
        rw [List.getElem?_replicate] at h
        split at h <;> cases h
    rw [List.getElem?_append_left (by simp; exact hi), List.getElem?_map] at h
    cases e : ds[i]? with
    | none => rw [e] at h; cases h
    | some d' =>
      rw [e] at h
      cases h
      obtain ⟨v, h1, h2⟩ := r.get e
      refine ⟨v, ?_, h2.kp k⟩
      unfold L2.start
      have : i < vs.length := by rw [r.len]; exact hi
      rw [List.getElem?_append_left (by simp; exact this), List.getElem?_map, h1]
      rfl
  own := fun i d h => by
    have hi : ¬ i < ds.length := fun hi => by
      rw [List.getElem?_append_left (by simp; exact hi), List.getElem?_map] at h
      cases e : ds[i]? with
      | none => rw [e] at h; cases h
      | some d' => rw [e] at h; cases h
    rw [List.getElem?_append_right (by simp; omega)] at h
    rw [List.getElem?_replicate] at h
    split at h <;> cases h
  pin := fun p h => by cases h
  slf := fun x h => by cases h
section
variable {P : Program} {w : World} {K : PySem.W.Frag} {mg : Str → Option Value} {base : Heap}
theorem fnG {x qual : Str} {st : Stmt} {f : Addr} {fd : FuncData} {N ps : List Str} {k n m : Nat} {t : SF} (F : Fun K x qual st f fd) (S : FnScope N ps (defScope st)) (hn : n = ps.length) (hm : N.length = n + m)
    (hb : ∀ (cdv : Value) (A : Around) (outer : List Env) (s : Shared) (H : Hp) (E : XK), Room k (A.deeper (envOfC qual (defScope st) s.heap.objs.size f cdv)) → ∃ ts, PSs (cxOf CX0 P w K mg base N qual (defScope st) f cdv A outer s H E).nox (defBody st) ts ∧ SR K ts t) : FnOk P w K mg base CX0 (k + 1) f fd ps (spG K n (runG m t)) := by
  subst hn
  refine F.ok S (fun vs H Q E h => ?_) (fun cdv A outer s H vs Q E hr h => ?_)
  · obtain ⟨_, _, _, h, _⟩ := h
    exact h
  · obtain ⟨Oc, ds, wd, hl, oc, r, hg, q⟩ := h
    obtain ⟨ts, hts, hs⟩ := hb cdv A outer s H E hr
    refine ⟨ts, hts, ?_⟩
    have R := reps_start oc N r (m := m) (by rw [hl]; exact hm)
    unfold runG at hg
    split at hg
    · rename_i w' e
      cases hg
      refine hs _ _ e H Oc _ noOw _ H R _ ?_
      cases wd with
      | v d => exact q
      | o d => exact q
    · rename_i g e
      cases hg
      exact hs _ _ e H Oc _ noOw _ H R _ fun ow σ H' R' => q .non H' R'.ex .non
    · cases hg
theorem FnOk.gf {f : Addr} {fd : FuncData} {ps : List Str} {k n : Nat} {gf gf' : PF} (F : FnOk P w K mg base CX0 k f fd ps (spG K n gf)) (h : ∀ ds w, gf' ds = some w → gf ds = some w) : FnOk P w K mg base CX0 k f fd ps (spG K n gf') :=
  F.imp fun vs H Q E ⟨Oc, ds, w, h1, h2, h3, h4, h5⟩ => ⟨Oc, ds, w, h1, h2, h3, h ds w h4, h5⟩
end
section
variable {K : PySem.W.Frag}
def dCall (n : Nat) (gf : PF) (a : DAF) : DF := fun g => (a g).bind fun ds => if ds.length = n then (gf ds).map Wd.d else none
theorem RpO.toRp {O : Addr → Prop} {H : Hp} {p : Addr} {d : D} (n : ¬ O p) (r : RpO K (fun a => O a ∨ a = p) H p d) : Rp K O H (.ref p) d := r.rp (fun b o m q => ⟨fun z => m (.inl z), q⟩) n
theorem er_call {n : Nat} {gf : PF} {E : XK} {ta : TA} {a : DAF} (ha : AR K ta a) : ER K (tCall (spG K n gf) [] E ta) (dCall n gf a) := fun g d h H0 Oc pins ow σ H R Q q => by
  unfold dCall at h
  cases ea : a g with
  | none => rw [ea] at h; cases h
  | some ds =>
    rw [ea] at h
    simp only [Option.bind_some] at h
    split at h
    · rename_i hn
      cases ew : gf ds with
      | none => rw [ew] at h; cases h
      | some wd =>
        rw [ew] at h
        cases h
        refine ha g ds ea H0 Oc pins ow σ H R _ fun vs H1 e1 r1 => ?_
        refine ⟨OO Oc ow, ds, wd, by rw [List.append_nil, r1.len]; exact hn, (R.grow e1).oo, by rw [List.append_nil]; exact r1, ew, ?_⟩
        cases wd with
        | v d => exact fun v H2 e2 r2 => q v H2 (e1.trans e2) r2
        | o d => exact fun p H2 e2 hp r2 => q _ H2 (e1.trans e2) (r2.toRp ((R.grow e1).new hp))
    · cases h
def dCallO (n : Nat) (gf : PF) (a : DAF) : DF := fun g => (a g).bind fun ds => if ds.length = n then (match gf ds with
  | some (.o d) => some d
  | _ => none) else none
theorem eo_call {n : Nat} {gf : PF} {E : XK} {ta : TA} {a : DAF} (ha : AR K ta a) : EO K (tCall (spG K n gf) [] E ta) (dCallO n gf a) := fun g d h H0 Oc pins ow σ H R Q q => by
  unfold dCallO at h
  cases ea : a g with
  | none => rw [ea] at h; cases h
  | some ds =>
    rw [ea] at h
    simp only [Option.bind_some] at h
    split at h
    · rename_i hn
      split at h
      · rename_i d' ew
        cases h
        refine ha g ds ea H0 Oc pins ow σ H R _ fun vs H1 e1 r1 => ?_
        exact ⟨OO Oc ow, ds, .o d, by rw [List.append_nil, r1.len]; exact hn, (R.grow e1).oo, by rw [List.append_nil]; exact r1, ew, fun p H2 e2 hp r2 => q p H2 (e1.trans e2) (Evl.fresh_back e1 hp) r2⟩
      · cases h
    · cases h
/-! ### __init__ and C(..) -/
def spI (K : PySem.W.Frag) (C : Addr) (n : Nat) (gf : List D → Option (List (Str × D))) : Sp := fun vs H Q _ => ∃ (H0 : Hp) (Oc : Addr → Prop) (x dx : Addr) (as : List V) (ds : List D) (gs : List (Str × D)),
  vs = .ref x :: as ∧ as.length = n ∧ H0 x = none ∧ H0 dx = none ∧ dx ≠ x ∧ H = upd (upd H0 dx (.own x)) x (.ins C dx []) ∧ (∀ a, Oc a → Lv H0 a) ∧ RpA K Oc H0 as ds ∧ gf ds = some gs ∧
  ∀ H', Ex H0 H' → RpO K (fun a => Oc a ∨ a = x) H' x (.ins C gs) → Q .non H'
def runI (C : Addr) (m : Nat) (t : SF) : List D → Option (List (Str × D)) := fun ds => match t (some (.o (.ins C [])) :: (ds.map (fun d => some (.v d)) ++ List.replicate m none)) with
  | some (.nx (some (.o (.ins C' gs)) :: _)) => if C' = C then some gs else none
  | _ => none
theorem ex_made {H0 : Hp} {x dx C : Addr} (hx : H0 x = none) (hd : H0 dx = none) : Ex H0 (upd (upd H0 dx (.own x)) x (.ins C dx [])) := fun a o e => by
  rw [upd_ne (ne_of_none e hx), upd_ne (ne_of_none e hd)]
  exact e
theorem reps_init {H0 : Hp} {Oc : Addr → Prop} {C x dx : Addr} (hx : H0 x = none) (hd : H0 dx = none) (oc : ∀ a, Oc a → Lv H0 a) (N : List Str) {as : List V} {ds : List D} (r : RpA K Oc H0 as ds) {m : Nat} (hm : N.length = as.length + 1 + m) :
    Reps K H0 Oc ⟨[], some x⟩ (fun i => if i = 0 then some x else none) (L2.start N (.ref x :: as)) (upd (upd H0 dx (.own x)) x (.ins C dx [])) (some (.o (.ins C [])) :: (ds.map (fun d => some (.v d)) ++ List.replicate m none)) := by
  have R := reps_start oc (N.drop 1) r (m := m) (by rw [List.length_drop]; omega)
  have e0 : L2.start N (.ref x :: as) = some (.ref x) :: L2.start (N.drop 1) as := by
    unfold L2.start
    simp only [List.map_cons, List.length_cons, List.cons_append, List.length_drop]
    congr 3
    omega
  rw [e0]
  have ex := ex_made (C := C) hx hd
  have ow0 : ∀ {i : Nat} {a : Addr}, (if i = 0 then some x else none) = some a → i = 0 ∧ a = x := fun {i a} h => by
    split at h
    · cases h; exact ⟨by assumption, rfl⟩
    · cases h
  have k : Kp (OO Oc noOw) H0 (OO Oc (fun i => if i = 0 then some x else none)) (upd (upd H0 dx (.own x)) x (.ins C dx [])) := fun a o n e => ⟨fun z => (by
    rcases z with z | ⟨i, z⟩
    · exact n (.inl z)
    · rw [(ow0 z).2, hx] at e; cases e), ex a o e⟩
  exact {
    len := by rw [List.length_cons, List.length_cons, R.len]
    ex := ex
    oc := oc
    fr := fun i a h => by rw [(ow0 h).2]; exact ⟨hx, by unfold Lv; rw [upd_same]; exact ⟨fun z => (by cases z), fun _ z => (by cases z)⟩⟩
    inj := fun i j a h h' => by rw [(ow0 h).1, (ow0 h').1]
    is := fun i a h => by rw [(ow0 h).1]; exact ⟨_, rfl⟩
    val := fun i d h => by
      cases i with
      | zero => cases h
      | succ i =>
        obtain ⟨v, h1, h2⟩ := R.val i d h
        exact ⟨v, h1, h2.kp k⟩
    own := fun i d h => by
      cases i with
      | zero =>
        cases h
        exact ⟨x, rfl, rfl, dx, [], upd_same, .nil⟩
      | succ i =>
        obtain ⟨a, h1, _⟩ := R.own i d h
        cases h1
    pin := fun p h => by cases h
    slf := fun y h => by cases h; rfl }
theorem initG {P : Program} {w : World} {mg : Str → Option Value} {base : Heap} {C : Addr} {x qual : Str} {st : Stmt} {f : Addr} {fd : FuncData} {N ps : List Str} {k n m : Nat} {t : SF} (F : Fun K x qual st f fd) (S : FnScope N ps (defScope st)) (hn : n + 1 = ps.length) (hm : N.length = n + 1 + m)
    (hb : ∀ (cdv : Value) (A : Around) (outer : List Env) (s : Shared) (H : Hp) (E : XK), Room k (A.deeper (envOfC qual (defScope st) s.heap.objs.size f cdv)) → ∃ ts, PSs (cxOf CX0 P w K mg base N qual (defScope st) f cdv A outer s H E).nox (defBody st) ts ∧ SR K ts t) : FnOk P w K mg base CX0 (k + 1) f fd ps (spI K C n (Zk.runI C m t)) := by
  refine F.ok S (fun vs H Q E h => ?_) (fun cdv A outer s H vs Q E hr h => ?_)
  · obtain ⟨H0, Oc, x, dx, as, ds, gs, rfl, hl, _⟩ := h
    rw [List.length_cons, hl, hn]
  · obtain ⟨H0, Oc, x, dx, as, ds, gs, rfl, hl, hx, hd, hdx, rfl, oc, r, hg, q⟩ := h
    obtain ⟨ts, hts, hs⟩ := hb cdv A outer s _ E hr
    refine ⟨ts, hts, ?_⟩
    have R := reps_init (C := C) hx hd oc N r (m := m) (by rw [hl]; exact hm)
    unfold Zk.runI at hg
    split at hg
    · rename_i C' gs' rest e
      split at hg
      · rename_i ec
        subst ec
        cases hg
        refine hs _ _ e H0 Oc _ _ _ _ R _ fun ow σ H' R' => ?_
        obtain ⟨p, h1, h2, h3⟩ := R'.own 0 _ rfl
        have e2 := R'.slf x rfl
        rw [e2] at h1
        cases h1
        refine q H' R'.ex (h3.kp (fun b o nb e => ⟨fun z => ?_, e⟩) rfl)
        rcases z with z | z
        · exact nb (.inl z)
        · exact nb (.inr ⟨0, by rw [z]; exact e2⟩)
      · cases hg
    · cases hg
def dMake (C : Addr) (n : Nat) (gf : List D → Option (List (Str × D))) (a : DAF) : DF := fun g => (a g).bind fun ds => if ds.length = n then (gf ds).map (.ins C) else none
theorem eo_make {C : Addr} {n : Nat} {gf : List D → Option (List (Str × D))} {E : XK} {ta : TA} {a : DAF} (ha : AR K ta a) : EO K (tMake C (spI K C n gf) [] E ta) (dMake C n gf a) := fun g d h H0 Oc pins ow σ H R Q q => by
  unfold dMake at h
  cases ea : a g with
  | none => rw [ea] at h; cases h
  | some ds =>
    rw [ea] at h
    simp only [Option.bind_some] at h
    split at h
    · rename_i hn
      cases ew : gf ds with
      | none => rw [ew] at h; cases h
      | some gs =>
        rw [ew] at h
        cases h
        refine ha g ds ea H0 Oc pins ow σ H R _ fun vs H1 e1 r1 => fun x dx hx hdx hne => ?_
        rw [List.append_nil]
        exact ⟨H1, OO Oc ow, x, dx, vs, ds, gs, rfl, by rw [r1.len]; exact hn, hx, hdx, hne, rfl, (R.grow e1).oo, r1, ew, fun H2 e2 r2 => ⟨rfl, q x H2 (e1.trans e2) (Evl.fresh_back e1 hx) r2⟩⟩
    · cases h
end
end Zk
end

section
set_option Elab.async false
set_option linter.all false
set_option maxRecDepth 100000
set_option autoImplicit false
set_option maxHeartbeats 2000000
/-! len(set(ints)); names of the built-ins; odds. -/
namespace Zk
open PySem L2 PyProof.Rows
open Evl (Ex)

/-! ### how many different ones -/
def dd : List Int → List Int
  | [] => []
  | x :: xs => if x ∈ xs then dd xs else x :: dd xs
theorem dd_mem : ∀ (xs : List Int) (k : Int), k ∈ dd xs ↔ k ∈ xs
  | [], k => Iff.rfl
  | x :: xs, k => by
    unfold dd
    by_cases h : x ∈ xs
    · rw [if_pos h, dd_mem xs k, List.mem_cons]
      exact ⟨.inr, fun z => z.elim (fun e => e ▸ h) id⟩
    · rw [if_neg h, List.mem_cons, List.mem_cons, dd_mem xs k]
theorem dd_nodup : ∀ xs : List Int, (dd xs).Nodup
  | [] => .nil
  | x :: xs => by
    unfold dd
    by_cases h : x ∈ xs
    · rw [if_pos h]; exact dd_nodup xs
    · rw [if_neg h]
      exact List.nodup_cons.mpr ⟨fun z => h ((dd_mem xs x).mp z), dd_nodup xs⟩
theorem dd_le : ∀ xs : List Int, (dd xs).length ≤ xs.length
  | [] => Nat.le_refl _
  | x :: xs => by
    unfold dd
    have := dd_le xs
    by_cases h : x ∈ xs
    · rw [if_pos h, List.length_cons]; omega
    · rw [if_neg h, List.length_cons, List.length_cons]; omega
theorem nodup_len {xs ys : List Int} (hx : xs.Nodup) (hy : ys.Nodup) (h : ∀ k, k ∈ xs ↔ k ∈ ys) : xs.length = ys.length :=
  ((List.perm_ext_iff_of_nodup hx hy).mpr h).length_eq
theorem met_nodup (val : Nat → Int) : ∀ i, (firstMet val i).Nodup
  | 0 => .nil
  | i + 1 => by
    rw [firstMet_succ]
    unfold step_dedup
    split
    · exact met_nodup val i
    · rename_i h
      rw [List.nodup_append]
      refine ⟨met_nodup val i, by simp, fun a ha b hb => ?_⟩
      rw [List.mem_singleton.mp hb]
      intro e
      exact h (List.any_eq_true.mpr ⟨a, ha, by rw [e]; exact beq_self_eq_true _⟩)
theorem met_mem (ns : List Int) (k : Int) : k ∈ firstMet (fun i => ns.getD i 0) ns.length ↔ k ∈ ns := by
  have e := firstMet_any (fun i => ns.getD i 0) ns.length k
  have e2 : (List.range ns.length).map (fun i => ns.getD i 0) = ns := by
    apply List.ext_getElem
    · simp
    · intro i h1 h2
      simp [List.getElem?_eq_getElem h2]
  rw [e2] at e
  have q : ∀ l : List Int, l.any (· == k) = true ↔ k ∈ l := fun l => by
    rw [List.any_eq_true]
    exact ⟨fun ⟨x, hx, hk⟩ => by rw [← eq_of_beq hk]; exact hx, fun h => ⟨k, h, beq_self_eq_true _⟩⟩
  rw [← q, ← q, e]
theorem met_len (ns : List Int) : (firstMet (fun i => ns.getD i 0) ns.length).length = (dd ns).length :=
  nodup_len (met_nodup _ _) (dd_nodup ns) fun k => (met_mem ns k).trans (dd_mem ns k).symm
def tLenSetA (K : PySem.W.Frag) (ta : TE) : TE := fun σ H Q => ta σ H fun x H1 => ∃ (l : Addr) (ns : List Int), x = .ref l ∧ (SqL K H1 l (ns.map V.int) ∨ SqT K H1 l (ns.map V.int)) ∧ ns.length ≤ 4000 ∧ Q (.int ((dd ns).length : Nat)) H1
theorem pe_lenSetA {X : Cx} {a : Expr} {ta : TE} {p p2 q pos : Pos} (hg : Gl X "len") (hm : X.mg "len" = none) (hg2 : Gl X "set") (hm2 : X.mg "set" = none) (ha : PE X a ta) (hc : X.calm = true := by rfl)
    (na : starEach [a] X.env = (false, eval a X.env) :: starEach [] X.env := by rfl) : PE X (.Call (.Name "len" p) [.Call (.Name "set" p2) [a] [] q] [] pos) (tLenSetA X.K ta) := by
  refine ⟨fun pins s σ H Q I h => ?_⟩
  refine Call_ (ld_blt I hg hm boot_len ?_)
  refine PyProof.Rows.callWith_builtin1 (PyProof.Rows.args_cons ?_ rfl) rfl rfl
  refine Call_ (ld_blt I hg2 hm2 boot_set ?_)
  refine PyProof.Rows.callWith_type1 (PyProof.Rows.args_cons (thn (ha.run pins s σ H _ I h) fun v s1 ⟨x, H1, I1, r1, q1⟩ => PyProof.Rows.args_nil ?_) na) na rfl
  obtain ⟨l, ns, rfl, hq, hl, q1⟩ := q1
  cases r1
  rcases hq with hq | hq
  · obtain ⟨its, r, pl, hz⟩ := I1.list hq
    have hlen : its.toArray.size = ns.length := by rw [List.size_toArray, ← r.length, List.length_map]
    refine call_set_list (I1.ok.hd hc) pl.isList (by simpa using RZ.intsAre_vals r) (by rw [hlen]; unfold scanBound; omega) fun h' tk hS hk => ?_
    refine PyProof.Rows.args_nil ?_
    rw [hlen, met_len] at hS
    obtain ⟨o, es, ep, t, ho, hex, hd, _, _, _, hf, hn⟩ := hS
    have I2 : Inv X pins σ H1 { s1 with heap := h', toks := tk } := I1.kept fun b o e => hk b o (Heap.lt_size e) e
    have := dd_le ns
    exact call_len_set ho hex hd hf (by rw [hn] <;> omega) ⟨.int ((dd ns).length : Nat), H1, I2.tok _, ⟨_, by rw [hn]⟩, q1⟩
  · obtain ⟨its, r, pl, hz⟩ := I1.tuple hq
    refine call_set_tupI ns (I1.ok.hd hc) pl (by simpa using RZ.intsAre_vals r) (by unfold scanBound; omega) fun h' tk c R1 hcn k => ?_
    refine PyProof.Rows.args_nil ?_
    obtain ⟨o, es, ep, t, ho, hex, hd, g, nd, hm2, hb, hf, hn, _⟩ := R1
    have I2 : Inv X pins σ H1 { s1 with heap := h', toks := tk } := I1.kept k
    have e : es.size = (dd ns).length := by
      rw [← nodup_len nd (dd_nodup ns) fun k => by rw [← hm2 k, decide_eq_true_eq, dd_mem], List.length_map, Array.length_toList]
    have := dd_le ns
    exact call_len_set ho hex hd hf (by rw [e] <;> omega) ⟨.int ((dd ns).length : Nat), H1, I2.tok _, ⟨_, by rw [e]⟩, q1⟩
def lenSetD (d : D) : Option D := (itemsD d).bind fun ds => (asInts ds).bind fun ns => if ns.length ≤ 4000 then some (.int ((dd ns).length : Nat)) else none
section
variable {K : PySem.W.Frag}
theorem er_lenSet {te : TE} {a : DF} (ha : ER K te a) : ER K (tLenSetA K te) (d1 lenSetD a) := fun g d h H0 Oc pins ow σ H R Q q => by
  unfold d1 at h
  cases ea : a g with
  | none => rw [ea] at h; cases h
  | some x =>
    rw [ea] at h
    simp only [Option.bind_some] at h
    refine ha g x ea H0 Oc pins ow σ H R _ fun v H1 e1 r1 => ?_
    unfold lenSetD at h
    cases ei : itemsD x with
    | none => rw [ei] at h; cases h
    | some ds =>
      rw [ei] at h
      simp only [Option.bind_some] at h
      cases en : asInts ds with
      | none => rw [en] at h; cases h
      | some ns =>
        rw [en] at h
        simp only [Option.bind_some] at h
        split at h
        · rename_i hl
          cases h
          obtain rfl := asInts_iL en
          cases x <;> first | (cases ei; done) | skip
          · cases ei
            cases r1 with
            | lst n e r => rw [r.toInts] at e; exact ⟨_, ns, rfl, .inl (.of e), hl, q _ H1 e1 (.int _)⟩
          · cases ei
            cases r1 with
            | tup n e r => rw [r.toInts] at e; exact ⟨_, ns, rfl, .inr (.of e), hl, q _ H1 e1 (.int _)⟩
          · rename_i ms
            have e : iL ms = iL ns := Option.some.inj ei
            have e2 := asInts_of ms
            rw [e, asInts_of] at e2
            cases e2
            cases r1 with
            | scr n e => exact ⟨_, _, rfl, .inl (.inl e), hl, q _ H1 e1 (.int _)⟩
            | kscr e => exact ⟨_, _, rfl, .inl (e H1), hl, q _ H1 e1 (.int _)⟩
        · cases h
def negD : D → Option D
  | .int i => some (.int (-i))
  | _ => none
theorem ru_neg : RU K (rU fun i => .int (-i)) negD := fun x d h O H v o rx Q q => by
  unfold negD at h
  split at h
  · cases h; cases rx
    exact ⟨_, rfl, rr_fin q (.int _)⟩
  · cases h
/-- a flat value may look at what is owned -/
def peekF (a : DF) : DF := fun g => match a (frzAll g) with
  | some d => if d.flat = true then some d else none
  | none => none
theorem er_peekF {te : TE} {a : DF} (ha : ER K te a) : ER K te (peekF a) := fun g d h H0 Oc pins ow σ H R Q q => by
  unfold peekF at h
  split at h
  · rename_i d' e
    split at h
    · rename_i f
      cases h
      exact ha _ d e H0 Oc _ noOw σ H R.frzAll Q fun v H' e' r => q v H' e' (r.flat f)
    · cases h
  · cases h
end
/-! ### the built-ins by name -/
theorem bt_len : bootBuiltins "len" = some (.builtin "len") := by decide +kernel
theorem bt_abs : bootBuiltins "abs" = some (.builtin "abs") := by decide +kernel
theorem bt_min : bootBuiltins "min" = some (.builtin "min") := by decide +kernel
theorem bt_max : bootBuiltins "max" = some (.builtin "max") := by decide +kernel
theorem bt_sum : bootBuiltins "sum" = some (.builtin "sum") := by decide +kernel
theorem bt_all : bootBuiltins "all" = some (.builtin "all") := by decide +kernel
theorem bt_sorted : bootBuiltins "sorted" = some (.builtin "sorted") := by decide +kernel
theorem bt_isinstance : bootBuiltins "isinstance" = some (.builtin "isinstance") := by decide +kernel
theorem bt_int : bootBuiltins "int" = some (.type "int") := by decide +kernel
theorem bt_bool : bootBuiltins "bool" = some (.type "bool") := by decide +kernel
theorem bt_list : bootBuiltins "list" = some (.type "list") := by decide +kernel
theorem bt_tuple : bootBuiltins "tuple" = some (.type "tuple") := by decide +kernel
end Zk
end

section
set_option Elab.async false
set_option linter.all false
set_option maxRecDepth 100000
set_option autoImplicit false
set_option maxHeartbeats 2000000
/-! Comprehensions of two clauses. -/
namespace Zk
open PySem L2 PyProof.Rows
open Evl (Ex)

/-- all but what stands at Dl is kept -/
def Tch (Dl : Addr) (H H2 : Hp) : Prop := ∀ a o, a ≠ Dl → H a = some o → H2 a = some o
theorem Tch.refl (Dl : Addr) (H : Hp) : Tch Dl H H := fun _ _ _ h => h
theorem Tch.trans {Dl : Addr} {H H1 H2 : Hp} (a : Tch Dl H H1) (b : Tch Dl H1 H2) : Tch Dl H H2 := fun c o n h => b c o n (a c o n h)
theorem Tch.ex {Dl : Addr} {H H1 : Hp} (e : Ex H H1) : Tch Dl H H1 := fun a o _ h => e a o h
theorem Tch.upd {Dl : Addr} {H : Hp} {o : HO} : Tch Dl H (L2.upd H Dl o) := fun a u n h => by rw [upd_ne n]; exact h
section
variable {K : PySem.W.Frag}
theorem Tch.kp {Dl : Addr} {O : Addr → Prop} {H H2 : Hp} (e : Tch Dl H H2) (hD : O Dl) : Kp O H O H2 := fun a o n h => ⟨n, e a o (fun z => n (z ▸ hD)) h⟩
open Classical in
theorem Reps.touch {B H H2 : Hp} {Oc : Addr → Prop} {pins : Pn} {ow : OW} {σ : L2.St} {g : Gm} {Dl : Addr} (R : Reps K B Oc pins ow σ H g) (hD : Oc Dl) (e : Tch Dl H H2) (h2 : Lv H2 Dl) :
    ∃ B', Reps K B' Oc pins ow σ H2 g := by
  have k : Kp (OO Oc ow) H (OO Oc ow) H2 := e.kp (.inl hD)
  have nD : ∀ i a, ow i = some a → a ≠ Dl := fun i a h z => (R.oc Dl hD).1 (by rw [← z]; exact (R.fr i a h).1)
  have there : ∀ a, a ≠ Dl → Lv H a → Lv H2 a := fun a n h => by
    cases y : H a with
    | none => exact absurd y h.1
    | some o =>
      have q := e a o n y
      exact ⟨fun z => (by rw [q] at z; cases z), fun xs z => (by rw [q] at z; exact h.2 xs (y.trans z))⟩
  refine ⟨fun b => if ∃ i, ow i = some b then none else H2 b, ?_⟩
  exact {
    len := R.len
    ex := fun a o h => by
      have h : (if ∃ i, ow i = some a then none else H2 a) = some o := h
      split at h
      · cases h
      · exact h
    oc := fun a h => by
      have nw : ¬ ∃ i, ow i = some a := fun ⟨i, z⟩ => (R.oc a h).1 (R.fr i a z).1
      show (if ∃ i, ow i = some a then none else H2 a) ≠ none ∧ ∀ xs, (if ∃ i, ow i = some a then none else H2 a) ≠ some (.tup xs)
      rw [if_neg nw]
      by_cases q : a = Dl
      · rw [q]; exact h2
      · exact there a q (R.oo a (.inl h))
    fr := fun i a h => ⟨if_pos ⟨i, h⟩, there a (nD i a h) (R.fr i a h).2⟩
    inj := R.inj
    is := R.is
    val := fun i d h => let ⟨v, h1, h2⟩ := R.val i d h; ⟨v, h1, h2.kp k⟩
    own := fun i d h => let ⟨a, h1, h2, h3⟩ := R.own i d h; ⟨a, h1, h2, h3.kp k (by
      cases y : H a with
      | none => exact absurd y h3.there
      | some o => exact e a o (nD i a h1) y)⟩
    pin := fun p h => (R.pin p h).kp k
    slf := R.slf }
def collL (one : D → Option (List D)) : List D → Option (List D)
  | [] => some []
  | d :: ds => (one d).bind fun es => (collL one ds).map (es ++ ·)
/-- a loop that collects into the list at Dl -/
theorem coll {J : It} {ds es : List D} {ps : List (V × D)} {one : D → Option (List D)} {B H : Hp} {Oc : Addr → Prop} {pins : Pn} {ow : OW} {σ : L2.St} {g : Gm} {Dl : Addr} {acc : List V} {dn : List D} {Fin : Hp → Prop} {Body : V → Hp → (Hp → Prop) → Prop}
    (hw : Wk K J ds ps) (R : Reps K B Oc pins ow σ H g) (hD : Oc Dl) (hps : ∀ p ∈ ps, Rp K (OO Oc ow) H p.1 p.2) (hl : H Dl = some (.lst acc)) (ra : RpA K (OO Oc ow) H acc dn)
    (h : collL one ds = some es)
    (hs : ∀ d os, d ∈ ds → one d = some os → ∀ B' x H' acc' dn' (Nx : Hp → Prop), Tch Dl H H' → Reps K B' Oc pins ow σ H' g → Rp K (OO Oc ow) H' x d → H' Dl = some (.lst acc') → RpA K (OO Oc ow) H' acc' dn' → dn'.length + os.length ≤ dn.length + es.length →
      (∀ H2 acc2, Tch Dl H' H2 → H2 Dl = some (.lst acc2) → RpA K (OO Oc ow) H2 acc2 (dn' ++ os) → Nx H2) → Body x H' Nx)
    (hq : ∀ H2 acc2, Tch Dl H H2 → H2 Dl = some (.lst acc2) → RpA K (OO Oc ow) H2 acc2 (dn ++ es) → Fin H2) :
    ∃ W : Nat → Nat → Hp → Prop, (∃ m, W 0 m H) ∧ ∀ i m H', W i m H' → (J.stop i H' ∧ Fin H') ∨ (J.go i H' ∧ ∃ Nx : Hp → Prop, (∀ H2, Nx H2 → ∃ m', m' < m ∧ W (i + 1) m' H2) ∧ ∀ x H2, J.yld i H' x H2 → Body x H2 Nx) := by
  let P : Nat → Hp → Prop := fun i H' => ∃ acc' dn' rest, Tch Dl H H' ∧ H' Dl = some (.lst acc') ∧ RpA K (OO Oc ow) H' acc' dn' ∧ collL one (ds.drop i) = some rest ∧ dn ++ es = dn' ++ rest
  refine ⟨fun i m H' => m = ds.length - i ∧ i ≤ ds.length ∧ P i H', ⟨ds.length, rfl, Nat.zero_le _, ⟨acc, dn, es, Tch.refl Dl H, hl, ra, h, rfl⟩⟩, ?_⟩
  rintro i m H' ⟨rfl, hi, ⟨acc', dn', rest, e1, hl', ra', hr, hes⟩⟩
  obtain ⟨B', R'⟩ := R.touch hD e1 ⟨by rw [hl']; exact fun z => (by cases z), by rw [hl']; exact fun _ z => (by cases z)⟩
  have kps : ∀ p ∈ ps, Rp K (OO Oc ow) H' p.1 p.2 := fun p hp => (hps p hp).kp (e1.kp (.inl hD))
  by_cases hlt : i < ds.length
  · refine .inr ⟨hw.go _ i H' hlt kps trivial, P (i + 1), fun H2 p => ⟨ds.length - (i + 1), by omega, rfl, hlt, p⟩, fun x H2 y => ?_⟩
    have hd : ds[i]? = some ds[i] := List.getElem?_eq_getElem hlt
    obtain ⟨e2, rx⟩ := hw.yld _ i H' x H2 ds[i] R'.oo kps y hd
    rw [show ds.drop i = ds[i] :: ds.drop (i + 1) from List.drop_eq_getElem_cons hlt] at hr
    unfold collL at hr
    cases e3 : one ds[i] with
    | none => rw [e3] at hr; cases hr
    | some os =>
      rw [e3] at hr
      simp only [Option.bind_some] at hr
      cases e4 : collL one (ds.drop (i + 1)) with
      | none => rw [e4] at hr; cases hr
      | some rest' =>
        rw [e4] at hr
        have hr2 : os ++ rest' = rest := Option.some.inj hr
        refine hs ds[i] os (List.getElem_mem hlt) e3 B' x H2 acc' dn' _ (e1.trans (Tch.ex e2)) (R'.grow e2) rx (e2 _ _ hl') (ra'.ex e2) (by
          have := congrArg List.length hes
          rw [← hr2, List.length_append, List.length_append, List.length_append] at this
          omega) fun H3 acc3 t3 l3 r3 => ⟨acc3, dn' ++ os, rest', (e1.trans (Tch.ex e2)).trans t3, l3, r3, e4, ?_⟩
        rw [hes, ← hr2, List.append_assoc]
  · have hi2 : i = ds.length := by omega
    subst hi2
    refine .inl ⟨hw.stop _ H' kps trivial, ?_⟩
    rw [List.drop_length] at hr
    have hr' : rest = [] := (Option.some.inj hr).symm
    rw [hr', List.append_nil] at hes
    exact hq H' acc' e1 hl' (by rw [hes]; exact ra')
/-- all lists that are made so stay below a line -/
def one1 (tg : DGF) (tt : DTF) (te : DF) (g : Gm) : D → Option (List D) := fun d => (tg d g).bind fun g1 => (tt g1).bind fun b => if b = true then (te g1).map fun e => [e] else some []
def one2 (tg : DGF) (tt : DTF) (it1 : DIF) (tg1 : DGF) (tt1 : DTF) (te : DF) (vs1 : List Nat) (g : Gm) : D → Option (List D) := fun d => (tg d g).bind fun g1 => (tt g1).bind fun b =>
  if b = true then (if free g1 vs1 = true then (it1 g1).bind fun ds1 => collL (one1 tg1 tt1 te (wipeG g1 vs1)) ds1 else none) else some []
def dLc2 (it : DIF) (tg : DGF) (tt : DTF) (it1 : DIF) (tg1 : DGF) (tt1 : DTF) (te : DF) (vs vs1 : List Nat) : DF := fun g => if free g vs = true then (it g).bind fun ds => (collL (one2 tg tt it1 tg1 tt1 te vs1 (wipeG g vs)) ds).bind fun es =>
  if es.length ≤ 100000 then some (.lst es) else none else none

theorem eo_lc2 {wi wi1 : TI} {it it1 : DIF} {tg tg1 : TG} {f f1 : DGF} {tte tte1 : TT} {ft ft1 : DTF} {tee : TE} {fe : DF} {vs vs1 : List Nat} (hi : IR K wi it) (hg : GRc K tg f vs) (ht : TR K tte ft)
    (hi1 : IR K wi1 it1) (hg1 : GRc K tg1 f1 vs1) (ht1 : TR K tte1 ft1) (he : ER K tee fe) : EO K (tLc2 wi tg tte wi1 tg1 tte1 tee vs vs1) (dLc2 it f ft it1 f1 ft1 fe vs vs1) := fun g d h H0 Oc pins ow σ H R Q q => by
  unfold dLc2 at h
  split at h
  · rename_i hf
    cases ei : it g with
    | none => rw [ei] at h; cases h
    | some ds =>
      rw [ei] at h
      simp only [Option.bind_some] at h
      cases el : collL (one2 f ft it1 f1 ft1 fe vs1 (wipeG g vs)) ds with
      | none => rw [el] at h; cases h
      | some es =>
        rw [el] at h
        simp only [Option.bind_some] at h
        split at h
        · rename_i hz
          cases h
          refine hi g ds ei H0 Oc pins ow σ H R _ fun J H1 ps e1 hps hw => ?_
          intro Dl hDl
          have R1 := R.grow e1
          obtain ⟨B, RB⟩ := R1.rebase hDl (Evl.Ex.new (o := .lst []) hDl) (by unfold Lv; rw [upd_same]; exact ⟨fun z => (by cases z), fun _ z => (by cases z)⟩)
          have oeq : ∀ a, OO (fun a => Oc a ∨ a = Dl) ow a ↔ (OO Oc ow a ∨ a = Dl) := fun a =>
            ⟨fun z => z.elim (fun z => z.elim (fun z => .inl (.inl z)) .inr) (fun z => .inl (.inr z)), fun z => z.elim (fun z => z.elim (fun z => .inl (.inl z)) (fun z => .inr z)) (fun z => .inl (.inr z))⟩
          have kps : ∀ p ∈ ps, Rp K (OO (fun a => Oc a ∨ a = Dl) ow) (upd H1 Dl (.lst [])) p.1 p.2 := fun p hp => (hps p hp).kp fun a o n q => ⟨fun z => (by
            rcases (oeq a).mp z with z | z
            · exact n z
            · rw [z, hDl] at q; cases q), Evl.Ex.new hDl a o q⟩
          refine coll (Body := fun x H2 Nx => tg x (L2.wipe σ vs) H2 fun σ2 H2 => L2.wipe σ2 vs = L2.wipe σ vs ∧ tte σ2 H2 fun b H3 =>
            if b = true then wi1 σ2 H3 fun J1 H4 => ∃ W1 : Nat → Nat → Hp → Prop, (∃ m, W1 0 m H4) ∧ ∀ j k H, W1 j k H →
              (J1.stop j H ∧ Nx H) ∨ (J1.go j H ∧ ∃ Nx1 : Hp → Prop, (∀ H', Nx1 H' → ∃ k', k' < k ∧ W1 (j + 1) k' H') ∧ ∀ x H', J1.yld j H x H' → tg1 x (L2.wipe σ2 vs1) H' fun σ3 H5 => L2.wipe σ3 vs1 = L2.wipe σ2 vs1 ∧ tte1 σ3 H5 fun b H6 =>
                if b = true then tee σ3 H6 fun y H7 => ∃ acc, H7 Dl = some (.lst acc) ∧ acc.length < sizeLine ∧ Nx1 (upd H7 Dl (.lst (acc ++ [y]))) else Nx1 H6)
            else Nx H3) hw RB (.inr rfl) kps upd_same .nil el ?_ ?_
          · intro d os hd ho B' x H' acc' dn' Nx t1 R' rx hl' ra' hlen hN
            unfold one2 at ho
            cases e3 : f d (wipeG g vs) with
            | none => rw [e3] at ho; cases ho
            | some g1 =>
              rw [e3] at ho
              simp only [Option.bind_some] at ho
              cases e4 : ft g1 with
              | none => rw [e4] at ho; cases ho
              | some b =>
                rw [e4] at ho
                simp only [Option.bind_some] at ho
                have RW := R'.wipe hf
                refine hg d (wipeG g vs) g1 (fun v hv d' => wipeG_not hv _) e3 B' _ pins ow _ H' x RW rx _ fun σ2 R2 w2 _ => ⟨w2.trans (wipe_wipe σ vs), ?_⟩
                refine ht g1 b e4 B' _ pins ow σ2 H' R2 _ fun H3 e5 => ?_
                cases b with
                | false =>
                  rw [if_neg Bool.false_ne_true] at ho ⊢
                  cases ho
                  exact hN H3 acc' (Tch.ex e5) (e5 _ _ hl') (by rw [List.append_nil]; exact ra'.ex e5)
                | true =>
                  rw [if_pos rfl] at ho ⊢
                  split at ho
                  · rename_i hf1
                    cases e6 : it1 g1 with
                    | none => rw [e6] at ho; cases ho
                    | some ds1 =>
                      rw [e6] at ho
                      simp only [Option.bind_some] at ho
                      have R3 := R2.grow e5
                      refine hi1 g1 ds1 e6 B' _ pins ow σ2 H3 R3 _ fun J1 H4 ps1 e7 hps1 hw1 => ?_
                      have R4 := R3.grow e7
                      refine coll (Body := fun x H2 Nx1 => tg1 x (L2.wipe σ2 vs1) H2 fun σ3 H5 => L2.wipe σ3 vs1 = L2.wipe σ2 vs1 ∧ tte1 σ3 H5 fun b H6 =>
                        if b = true then tee σ3 H6 fun y H7 => ∃ acc, H7 Dl = some (.lst acc) ∧ acc.length < sizeLine ∧ Nx1 (upd H7 Dl (.lst (acc ++ [y]))) else Nx1 H6) hw1 R4 (.inr rfl) hps1 (e7 _ _ (e5 _ _ hl')) ((ra'.ex e5).ex e7) ho ?_ ?_
                      · intro d1 os1 hd1 ho1 B2 x1 H8 acc8 dn8 Nx1 t8 R8 rx8 hl8 ra8 hlen8 hN8
                        unfold one1 at ho1
                        cases e9 : f1 d1 (wipeG g1 vs1) with
                        | none => rw [e9] at ho1; cases ho1
                        | some g2 =>
                          rw [e9] at ho1
                          simp only [Option.bind_some] at ho1
                          cases e10 : ft1 g2 with
                          | none => rw [e10] at ho1; cases ho1
                          | some b1 =>
                            rw [e10] at ho1
                            simp only [Option.bind_some] at ho1
                            have RW1 := R8.wipe hf1
                            refine hg1 d1 (wipeG g1 vs1) g2 (fun v hv d' => wipeG_not hv _) e9 B2 _ pins ow _ H8 x1 RW1 rx8 _ fun σ3 R9 w3 _ => ⟨w3.trans (wipe_wipe σ2 vs1), ?_⟩
                            refine ht1 g2 b1 e10 B2 _ pins ow σ3 H8 R9 _ fun H9 e11 => ?_
                            cases b1 with
                            | false =>
                              rw [if_neg Bool.false_ne_true] at ho1 ⊢
                              cases ho1
                              exact hN8 H9 acc8 (Tch.ex e11) (e11 _ _ hl8) (by rw [List.append_nil]; exact ra8.ex e11)
                            | true =>
                              rw [if_pos rfl] at ho1 ⊢
                              cases e12 : fe g2 with
                              | none => rw [e12] at ho1; cases ho1
                              | some e =>
                                rw [e12] at ho1
                                cases ho1
                                refine he g2 e e12 B2 _ pins ow σ3 H9 (R9.grow e11) _ fun yv H10 e13 ry => ?_
                                have k4 : Kp (OO (fun a => Oc a ∨ a = Dl) ow) H10 (OO (fun a => Oc a ∨ a = Dl) ow) (upd H10 Dl (.lst (acc8 ++ [yv]))) := Tch.upd.kp (.inl (.inr rfl))
                                refine ⟨acc8, e13 _ _ (e11 _ _ hl8), Evl.sz_lt ?_, hN8 _ _ ((Tch.ex (e11.trans e13)).trans Tch.upd) upd_same (RpA.app ((((ra8.ex e11).ex e13)).kp k4) (.one (ry.kp k4)))⟩
                                rw [ra8.len]
                                simp only [List.length_nil, List.length_singleton, Nat.zero_add] at hlen hlen8
                                omega
                      · intro H8 acc8 t8 l8 r8
                        exact hN H8 acc8 ((Tch.ex (e5.trans e7)).trans t8) l8 r8
                  · cases ho
          · intro H2 acc2 t2 l2 r2
            have ex2 : Ex H H2 := fun a o e => by
              have e' := e1 a o e
              have n : a ≠ Dl := fun z => by rw [z, hDl] at e'; cases e'
              exact t2 a o n (by rw [upd_ne n]; exact e')
            refine q Dl H2 ex2 (Evl.fresh_back e1 hDl) ⟨acc2, l2, ?_⟩
            exact r2.kp fun a o n q => ⟨fun z => n ((oeq a).mpr z), q⟩
        · cases h
  · cases h
end
end Zk
end

section
set_option Elab.async false
set_option linter.all false
set_option maxRecDepth 100000
set_option autoImplicit false
set_option maxHeartbeats 2000000
/-! in and count over items of any shape. -/
namespace Zk
open PySem L2 PyProof.Rows
open Evl (Ex)
/-- small data -/
def small (p : PyData) : Bool := p.canLay0 && decide (p.depth ≤ 60)
section
variable {X : Cx}
end
def inPB (x : D) : D → Option Bool
  | .lst ds => (toP x).bind fun d => (toPs ds).bind fun ps => if small d && PyData.canLayAll0 ps then some (ps.any fun z => PyData.eqv z d) else none
  | .tup ds => (toP x).bind fun d => (toPs ds).bind fun ps => if small d && PyData.canLayAll0 ps then some (ps.any fun z => PyData.eqv z d) else none
  | _ => none
def inPD (x y : D) : Option D := (inPB x y).map .bl
def ninPD (x y : D) : Option D := (inPB x y).map fun b => .bl (!b)
section
variable {K : PySem.W.Frag}
def countD (y x : D) : Option D := match y with
  | .lst ds => (toP x).bind fun d => (toPs ds).bind fun ps => if small d && PyData.canLayAll0 ps then some (.int ((ps.countP fun z => PyData.eqv z d : Nat) : Int)) else none
  | _ => none
/-- a new list of flat items may be made of what is owned -/
def peekO (a : DF) : DF := fun g => match a (frzAll g) with
  | some (.lst ds) => if ds.all D.flat then some (.lst ds) else none
  | _ => none
end
end Zk
end

section
set_option Elab.async false
set_option linter.all false
set_option maxRecDepth 100000
set_option autoImplicit false
set_option maxHeartbeats 2000000
/-! Dicts as data. -/
namespace Zk
open PySem L2
open Evl (Ex)
/-! ### keys -/
def keyE : D → Option Key
  | .int i => some (.inl i)
  | .str s => some (.inr s)
  | _ => none
def keyEs : List D → Option (List Key)
  | [] => some []
  | d :: ds => (keyE d).bind fun k => (keyEs ds).map (k :: ·)
def keyD : D → Option (List Key)
  | .tup ds => keyEs ds
  | _ => none
variable {K : PySem.W.Frag}
theorem keyE_rp {O : Addr → Prop} {H : Hp} {v : V} {d : D} {k : Key} (r : Rp K O H v d) (h : keyE d = some k) : v = kV k := by
  cases r <;> first | (cases h; done) | (cases h; rfl)
theorem keyEs_rp {O : Addr → Prop} {H : Hp} : ∀ {vs : List V} {ds : List D} {ks : List Key}, RpA K O H vs ds → keyEs ds = some ks → vs = ks.map kV
  | _, _, ks, .nil, h => by cases h; rfl
  | _, d :: ds, ks, .cons r rr, h => by
    unfold keyEs at h
    cases e : keyE d with
    | none => rw [e] at h; cases h
    | some k =>
      rw [e] at h
      cases e2 : keyEs ds with
      | none => rw [Option.bind_some, e2] at h; cases h
      | some ks' =>
        rw [Option.bind_some, e2] at h
        cases h
        rw [List.map_cons, keyE_rp r e, keyEs_rp rr e2]
theorem keyD_rp {O : Addr → Prop} {H : Hp} {v : V} {d : D} {ks : List Key} (r : Rp K O H v d) (h : keyD d = some ks) : ∃ b, v = .ref b ∧ H b = some (.tup (ks.map kV)) := by
  cases d <;> first | (cases h; done) | skip
  cases r with
  | tup n e x => exact ⟨_, rfl, by rw [e, keyEs_rp x h]⟩
/-! ### look-up, store -/
def getK (kvs : List (List Key × D)) (k : List Key) : Option D := (kvs.find? fun kv => decide (kv.1 = k)).map (·.2)
def setK (kvs : List (List Key × D)) (k : List Key) (d : D) : List (List Key × D) :=
  if (kvs.any fun kv => decide (kv.1 = k)) = true then kvs.map (fun kv => if kv.1 = k then (kv.1, d) else kv) else kvs ++ [(k, d)]
/-- a dict's pairs and their data -/
def RpD (K : PySem.W.Frag) (O : Addr → Prop) (H : Hp) (xs : List (List Key × V)) (kvs : List (List Key × D)) : Prop := xs.map (·.1) = kvs.map (·.1) ∧ RpA K O H (xs.map (·.2)) (kvs.map (·.2))
theorem RpD.nil {O : Addr → Prop} {H : Hp} : RpD K O H [] [] := ⟨rfl, .nil⟩
theorem RpD.inv {O : Addr → Prop} {H : Hp} {x : List Key × V} {xs : List (List Key × V)} {kvs : List (List Key × D)} (r : RpD K O H (x :: xs) kvs) : ∃ d kvs', kvs = (x.1, d) :: kvs' ∧ Rp K O H x.2 d ∧ RpD K O H xs kvs' := by
  obtain ⟨e, r⟩ := r
  cases kvs with
  | nil => cases e
  | cons kv kvs =>
    rw [List.map_cons, List.map_cons] at e r
    have e1 := (List.cons.inj e).1
    cases r with
    | cons a b => exact ⟨kv.2, kvs, by rw [e1], a, (List.cons.inj e).2, b⟩
theorem RpD.get {O : Addr → Prop} {H : Hp} : ∀ {xs : List (List Key × V)} {kvs : List (List Key × D)} (k : List Key), RpD K O H xs kvs →
    (getK kvs k = none ∧ valV xs k = none) ∨ ∃ d v, getK kvs k = some d ∧ valV xs k = some v ∧ Rp K O H v d
  | [], kvs, k, r => by
    obtain ⟨e, _⟩ := r
    cases kvs with
    | nil => exact .inl ⟨rfl, rfl⟩
    | cons a b => cases e
  | x :: xs, kvs, k, r => by
    obtain ⟨d, kvs', rfl, h1, h2⟩ := r.inv
    by_cases hk : x.1 = k
    · refine .inr ⟨d, x.2, ?_, valV_pos hk, h1⟩
      unfold getK
      rw [List.find?_cons, decide_eq_true hk]
      rfl
    · have ih := RpD.get k h2
      rw [valV_neg hk]
      have e : getK ((x.1, d) :: kvs') k = getK kvs' k := by
        unfold getK
        rw [List.find?_cons, decide_eq_false hk]
      rw [e]
      exact ih
theorem RpD.set {O : Addr → Prop} {H : Hp} {xs : List (List Key × V)} {kvs : List (List Key × D)} (k : List Key) {v : V} {d : D} (r : RpD K O H xs kvs) (hv : Rp K O H v d) : RpD K O H (putK xs k v) (setK kvs k d) := by
  have ha : (xs.any fun kv => decide (kv.1 = k)) = (kvs.any fun kv => decide (kv.1 = k)) := by
    have e1 : ∀ l : List (List Key × V), (l.any fun kv => decide (kv.1 = k)) = ((l.map (·.1)).any fun z => decide (z = k)) := fun l => by rw [List.any_map]; rfl
    have e2 : ∀ l : List (List Key × D), (l.any fun kv => decide (kv.1 = k)) = ((l.map (·.1)).any fun z => decide (z = k)) := fun l => by rw [List.any_map]; rfl
    rw [e1, e2, r.1]
  unfold putK setK
  rw [ha]
  split
  · have go : ∀ (xs : List (List Key × V)) (kvs : List (List Key × D)), RpD K O H xs kvs → RpD K O H (xs.map fun kv => if kv.1 = k then (kv.1, v) else kv) (kvs.map fun kv => if kv.1 = k then (kv.1, d) else kv) := by
      intro xs
      induction xs with
      | nil =>
        intro kvs r
        cases kvs with
        | nil => exact .nil
        | cons a b => cases r.1
      | cons x xs ih =>
        intro kvs r
        obtain ⟨d', kvs', rfl, h1, h2⟩ := r.inv
        have ih := ih kvs' h2
        rw [List.map_cons, List.map_cons]
        by_cases hk : x.1 = k
        · rw [if_pos hk, if_pos hk]
          exact ⟨by rw [List.map_cons, List.map_cons, ih.1], .cons hv ih.2⟩
        · rw [if_neg hk, if_neg hk]
          exact ⟨by rw [List.map_cons, List.map_cons, ih.1], .cons h1 ih.2⟩
    exact go xs kvs r
  · exact ⟨by rw [List.map_append, List.map_append, r.1]; rfl, by rw [List.map_append, List.map_append]; exact r.2.app (.one hv)⟩
theorem RpD.kp {O O' : Addr → Prop} {H H' : Hp} (k : Kp O H O' H') {xs : List (List Key × V)} {kvs : List (List Key × D)} (r : RpD K O H xs kvs) : RpD K O' H' xs kvs := ⟨r.1, r.2.kp k⟩
theorem RpD.len {O : Addr → Prop} {H : Hp} {xs : List (List Key × V)} {kvs : List (List Key × D)} (r : RpD K O H xs kvs) : xs.length = kvs.length := by
  have := congrArg List.length r.1
  rw [List.length_map, List.length_map] at this
  exact this
/-! ### a dict in a slot, owned or not -/
def dctAt (g : Gm) (i : Nat) : Option (List (List Key × D)) := match g[i]? with
  | some (some (.o (.dct kvs))) => some kvs
  | some (some (.v (.dct kvs))) => some kvs
  | _ => none
theorem dct_rp {H0 H : Hp} {Oc : Addr → Prop} {pins : Pn} {ow : OW} {σ : L2.St} {g : Gm} {i : Nat} {kvs : List (List Key × D)} (R : Reps K H0 Oc pins ow σ H g) (h : dctAt g i = some kvs) :
    ∃ a, σ[i]? = some (some (.ref a)) ∧ ∀ H', Ex H H' → ∃ xs, H' a = some (.dT xs) ∧ RpD K (OO Oc ow) H' xs kvs := by
  unfold dctAt at h
  split at h
  · rename_i kvs' e
    cases h
    obtain ⟨a, h1, h2, xs, h3, h4, h5⟩ := R.own i _ e
    exact ⟨a, h2, fun H' ex => ⟨xs, ex _ _ h3, h4, h5.ex ex⟩⟩
  · rename_i kvs' e
    cases h
    obtain ⟨v, h1, r⟩ := R.val i _ e
    cases r with
    | dct n h3 h4 h5 => exact ⟨_, h1, fun H' ex => ⟨_, ex _ _ h3, h4, h5.ex ex⟩⟩
  · cases h
/-- d[k] -/
def dIxO (i : Nat) (k : DF) : DF := fun g => (dctAt g i).bind fun kvs => (k g).bind fun x => (keyD x).bind fun ks => getK kvs ks
def dGetO (i : Nat) (k x : DF) : DF := fun g => (dctAt g i).bind fun kvs => (k g).bind fun y => (keyD y).bind fun ks => (x g).bind fun z => some ((getK kvs ks).getD z)
def dNotInO (i : Nat) (k : DF) : DF := fun g => (k g).bind fun y => (dctAt g i).bind fun kvs => (keyD y).bind fun ks => some (.bl (!(getK kvs ks).isSome))
section
variable {tk tx tv : TE} {k x a : DF} {i : Nat}
theorem er_dix (hk : ER K tk k) : ER K (tDGet (tVar i) tk) (dIxO i k) := fun g d h H0 Oc pins ow σ H R Q q => by
  unfold dIxO at h
  cases e1 : dctAt g i with
  | none => rw [e1] at h; cases h
  | some kvs =>
    rw [e1, Option.bind_some] at h
    cases e2 : k g with
    | none => rw [e2] at h; cases h
    | some y =>
      rw [e2, Option.bind_some] at h
      cases e3 : keyD y with
      | none => rw [e3] at h; cases h
      | some ks =>
        rw [e3, Option.bind_some] at h
        obtain ⟨a, s1, s2⟩ := dct_rp R e1
        refine ⟨.ref a, s1, ?_⟩
        refine hk g y e2 H0 Oc pins ow σ H R _ fun w H1 ex1 r1 => ?_
        obtain ⟨xs, h3, h4⟩ := s2 H1 ex1
        obtain ⟨b, rfl, hb⟩ := keyD_rp r1 e3
        rcases h4.get ks with ⟨z, _⟩ | ⟨d', v, z1, z2, z3⟩
        · rw [z] at h; cases h
        · rw [z1] at h
          cases h
          exact ⟨a, v, rfl, z2 ▸ DGet.t h3 hb, q v H1 ex1 z3⟩
theorem er_dget (hk : ER K tk k) (hx : ER K tx x) : ER K (tDGet2 (tVar i) tk tx) (dGetO i k x) := fun g d h H0 Oc pins ow σ H R Q q => by
  unfold dGetO at h
  cases e1 : dctAt g i with
  | none => rw [e1] at h; cases h
  | some kvs =>
    rw [e1, Option.bind_some] at h
    cases e2 : k g with
    | none => rw [e2] at h; cases h
    | some y =>
      rw [e2, Option.bind_some] at h
      cases e3 : keyD y with
      | none => rw [e3] at h; cases h
      | some ks =>
        rw [e3, Option.bind_some] at h
        cases e4 : x g with
        | none => rw [e4] at h; cases h
        | some z =>
          rw [e4, Option.bind_some] at h
          cases h
          obtain ⟨a, s1, s2⟩ := dct_rp R e1
          obtain ⟨xs0, h0, _⟩ := s2 H (Evl.Ex.refl H)
          refine ⟨.ref a, s1, a, rfl, .inr ⟨xs0, .inl h0⟩, ?_⟩
          refine hk g y e2 H0 Oc pins ow σ H R _ fun w H1 ex1 r1 => ?_
          refine hx g z e4 H0 Oc pins ow σ H1 (R.grow ex1) _ fun u H2 ex2 r2 => ?_
          obtain ⟨xs, h3, h4⟩ := s2 H2 (ex1.trans ex2)
          obtain ⟨b, rfl, hb⟩ := keyD_rp (r1.ex ex2) e3
          rcases h4.get ks with ⟨z1, z2⟩ | ⟨d', v, z1, z2, z3⟩
          · exact ⟨none, z2 ▸ DGet.t h3 hb, q u H2 (ex1.trans ex2) (by rw [z1]; exact r2)⟩
          · exact ⟨some v, z2 ▸ DGet.t h3 hb, q v H2 (ex1.trans ex2) (by rw [z1]; exact z3)⟩
theorem er_dnin (hk : ER K tk k) : ER K (tDNotIn tk (tVar i)) (dNotInO i k) := fun g d h H0 Oc pins ow σ H R Q q => by
  unfold dNotInO at h
  cases e2 : k g with
  | none => rw [e2] at h; cases h
  | some y =>
    rw [e2, Option.bind_some] at h
    cases e1 : dctAt g i with
    | none => rw [e1] at h; cases h
    | some kvs =>
      rw [e1, Option.bind_some] at h
      cases e3 : keyD y with
      | none => rw [e3] at h; cases h
      | some ks =>
        rw [e3, Option.bind_some] at h
        cases h
        obtain ⟨a, s1, s2⟩ := dct_rp R e1
        refine hk g y e2 H0 Oc pins ow σ H R _ fun w H1 ex1 r1 => ⟨.ref a, s1, ?_⟩
        obtain ⟨xs, h3, h4⟩ := s2 H1 ex1
        obtain ⟨b, rfl, hb⟩ := keyD_rp r1 e3
        rcases h4.get ks with ⟨z1, z2⟩ | ⟨d', v, z1, z2, z3⟩
        · exact ⟨a, none, rfl, z2 ▸ DGet.t h3 hb, q _ H1 ex1 (by rw [z1]; exact .bl _)⟩
        · exact ⟨a, some v, rfl, z2 ▸ DGet.t h3 hb, q _ H1 ex1 (by rw [z1]; exact .bl _)⟩
/-- {} -/
theorem eo_dnew : EO K tDNewT (fun _ => some (.dct [])) := fun g d h H0 Oc pins ow σ H R Q q => by
  cases h
  exact fun p hp => q p _ (Evl.Ex.new hp) hp ⟨[], upd_same, rfl, .nil⟩
/-- d[k] = v -/
def sPutO (i : Nat) (k a : DF) : SF := fun g => (a g).bind fun d => (k g).bind fun y => (keyD y).bind fun ks => match g[i]? with
  | some (some (.o (.dct kvs))) => if kvs.length < 100000 then some (.nx (g.set i (some (.o (.dct (setK kvs ks d)))))) else none
  | _ => none
theorem sr_put (hk : ER K tk k) (ha : ER K tv a) : SR K (sDPut (tVar i) tk tv) (sPutO i k a) := fun g out h H0 Oc pins ow σ H R De P => by
  unfold sPutO at h
  cases e1 : a g with
  | none => rw [e1] at h; cases h
  | some d =>
    rw [e1, Option.bind_some] at h
    cases e2 : k g with
    | none => rw [e2] at h; cases h
    | some y =>
      rw [e2, Option.bind_some] at h
      cases e3 : keyD y with
      | none => rw [e3] at h; cases h
      | some ks =>
        rw [e3, Option.bind_some] at h
        split at h
        · rename_i kvs hd
          split at h
          · rename_i hl
            cases h
            obtain ⟨p, h1, h2, xs, h3, h4⟩ := R.own i _ hd
            have h4 : RpD K (OO Oc ow) H xs kvs := h4
            refine ha g d e1 H0 Oc pins ow σ H R _ fun v H1 ex1 r1 => ⟨.ref p, h2, ?_⟩
            refine hk g y e2 H0 Oc pins ow σ H1 (R.grow ex1) _ fun w H2 ex2 r2 => ?_
            obtain ⟨b, rfl, hb⟩ := keyD_rp r2 e3
            have kp : Kp (OO Oc ow) H2 (OO Oc ow) (upd H2 p (.dT (putK xs ks v))) := fun b o n q => ⟨n, by rw [upd_ne (fun z => n (.inr ⟨i, by rw [z]; exact h1⟩))]; exact q⟩
            refine ⟨p, _, rfl, DPut.t (ex2 _ _ (ex1 _ _ h3)) hb (Evl.sz_lt (by rw [h4.len]; exact hl)), ?_⟩
            have rr : RpD K (OO Oc ow) (upd H2 p (.dT (putK xs ks v))) (putK xs ks v) (setK kvs ks d) := ((h4.kp (Kp.ex (ex1.trans ex2))).set ks (r1.ex ex2)).kp kp
            exact P ow σ _ (((R.grow ex1).grow ex2).upd hd h1 ⟨_, upd_same, rr⟩)
          · cases h
        · cases h
end
end Zk
end

section
set_option Elab.async false
set_option linter.all false
set_option maxRecDepth 100000
set_option autoImplicit false
set_option maxHeartbeats 2000000
/-! setdefault with tuple keys; while; extend; [::-1]; calls with keywords. -/
namespace Zk
open PySem PySem.Spec PyProof.Rows L2
open Evl (Ex)
section
variable {X : Cx} {pins : List (Addr × Obj)} {σ : L2.St} {H : Hp} {s : Shared} {a b : Addr} {r : Value} {d : V} {k : List Key} {A : Around} {E : Value → Shared → Prop}
theorem d_setdT {kvs : List (List Key × V)} {Q : Value → Shared → Prop} (hu : A.units + 1 < cLine) (I : L2.Inv X pins σ H s) (e : H a = some (.dT kvs)) (eb : H b = some (.tup (k.map kV))) (rd : L2.RelV d r) (hl : kvs.length < sizeLine)
    (h1 : ∀ v, valV kvs k = some v → ∀ (w' : Value) (s' : Shared), L2.Inv X pins σ H s' → L2.RelV v w' → Q w' s') (h2 : valV kvs k = none → ∀ (w' : Value) (s' : Shared), L2.Inv X pins σ (upd H a (.dT (putK kvs k d))) s' → L2.RelV d w' → Q w' s') :
    wpAny (model X.prog X.w) A (call (.builtin "dict.setdefault") [.ref a, .ref b, r]) Q E s := by
  obtain ⟨z, hd, xs, rel, dd⟩ := dt_of I.hok e
  have hz : xs.length ≤ sizeLine := by rw [← Paired.length rel]; exact z
  refine call_meetsIn PySem.F.slot_dict_setdefault dd.typeIs PySem.F.entry_dict_setdefault (PySem.F.args_dict_setdefault_3 _ _ _) (meetsH_dict_setdefault (tupleKind (mixKind X.prog X.w)) a b hd r) ⟨tupleKind_room_in1 hu, k, xs, key_of I.hok eb, dd, hz, fun p hp => ?_, fun hn h' dd' hs => ?_⟩
  · have q := rel.val k
    rw [hp] at q
    cases q0 : valV kvs k with
    | none => rw [q0] at q; exact (show False from q).elim
    | some v0 => rw [q0] at q; exact h1 v0 q0 _ _ (I.tok _) q
  · have q := rel.val k
    rw [hn] at q
    cases q0 : valV kvs k with
    | some v0 => rw [q0] at q; exact (show False from q).elim
    | none =>
      have hl2 : (putK kvs k d).length ≤ sizeLine := by have := length_putK kvs k d; omega
      obtain ⟨q, es, ep, hq, h2', h3, h4, _, h5⟩ := dd'
      refine h2 q0 _ _ (d_write (t' := s.toks + (tupleKind (mixKind X.prog X.w)).draws k) I (by rw [e]; exact True.intro) hs ⟨q, hq⟩ ⟨hl2, hd, _, (rel.put k eb rd).keeps fun c ys ec => ?_, q, es, ep, hq, h2', h3, h4, h5⟩) rd
      rw [upd_ne (ne_of ec e (fun z => nomatch z))]
      exact ec
end
def tDSetdT (td ty tx : TE) : TE := fun σ H Q => td σ H fun x H1 => ∃ a, x = .ref a ∧ IsD H1 a ∧ ty σ H1 fun y H2 => tx σ H2 fun z H3 => ∃ (kvs : List (List Key × V)) (k : List Key) (b : Addr), H3 a = some (.dT kvs) ∧ y = .ref b ∧ H3 b = some (.tup (k.map kV)) ∧ kvs.length < sizeLine ∧
  (∀ v, valV kvs k = some v → Q v H3) ∧ (valV kvs k = none → Q z (upd H3 a (.dT (putK kvs k z))))
section
variable {X : Cx} {o e f : Expr} {td ty tx : TE} {apos cpos : Pos}
theorem pe_dsetdT (hu : X.A.units + 1 < cLine) (ho : PE X o td) (he : PE X e ty) (hf : PE X f tx) (m : M2 X o "setdefault" apos e f cpos) : PE X (.Call (.Attribute o "setdefault" apos) [e, f] [] cpos) (tDSetdT td ty tx) := by
  refine ⟨fun pins s σ H Q I h => ?_⟩
  refine wpAny_Call_method m.base m.few m.line PySem.F.plainAttrs_dict PySem.F.slot_dict_setdefault PySem.F.type_dict_setdefault (thn (ho.run pins s σ H _ I h) fun u s1 ⟨x, H1, I1, rx, a, ex, d, q1⟩ => ?_)
  subst ex
  obtain rfl : u = Value.ref a := rx
  obtain ⟨t1, t2, _⟩ := isD_at I1 d
  refine ⟨t1, t2, ?_⟩
  rw [m.trees]
  refine Calls.callWith_builtin rfl (Calls.evalArgs_plain (Calls.spliced_cons (thn (he.run pins s1 σ H1 _ I1 q1) fun iv s2 ⟨y, H2, I2, ry, q2⟩ =>
    Calls.spliced_cons (thn (hf.run pins s2 σ H2 _ I2 q2) fun fv s3 ⟨z, H3, I3, rz, kvs, k, b, ea, ey, eb, hl, q3, q4⟩ => Calls.spliced_nil ?_))))
  subst ey
  obtain rfl : iv = Value.ref b := ry
  exact d_setdT hu I3 ea eb rz hl (fun v hv w' s4 I4 rw' => ⟨v, _, I4, rw', q3 v hv⟩) fun hn w' s4 I4 rw' => ⟨z, _, I4, rw', q4 hn⟩
end
/-! ### while -/
variable {K : PySem.W.Frag}
def whileD (t : DTF) (s : SF) : Nat → SF
  | 0, _ => none
  | n + 1, g => (t g).bind fun b => if b = true then (s g).bind fun o => match o with
    | .nx g2 => whileD t s n g2
    | .ct g2 => whileD t s n g2
    | .bk g2 => some (.nx g2)
    | .rt w => some (.rt w) else some (.nx g)
def sWhile (t : DTF) (s : SF) : SF := whileD t s 1000000
theorem sr_while {tt : TT} {t : DTF} {ts : TS} {s : SF} (ht : TR K tt t) (hs : SR K ts s) : SR K (tWhile tt ts) (sWhile t s) := fun g out h H0 Oc pins ow σ H R De P => by
  refine ⟨fun m σ' H' => ∃ ow' g', Reps K H0 Oc pins ow' σ' H' g' ∧ whileD t s m g' = some out, ⟨1000000, ow, g, R, h⟩, ?_⟩
  rintro m σ' H' ⟨ow', g', R', hl⟩
  cases m with
  | zero => cases hl
  | succ m =>
    unfold whileD at hl
    cases et : t g' with
    | none => rw [et] at hl; cases hl
    | some b =>
      rw [et, Option.bind_some] at hl
      refine ht g' b et H0 Oc pins ow' σ' H' R' _ fun H1 e1 => ?_
      cases b with
      | false =>
        rw [if_neg Bool.false_ne_true] at hl ⊢
        cases hl
        exact P ow' σ' H1 (R'.grow e1)
      | true =>
        rw [if_pos rfl] at hl ⊢
        cases e4 : s g' with
        | none => rw [e4] at hl; cases hl
        | some o =>
          rw [e4, Option.bind_some] at hl
          refine ⟨fun σ2 H2 => ∃ ow2 g2, Reps K H0 Oc pins ow2 σ2 H2 g2 ∧ whileD t s m g2 = some out, fun σ2 H2 p => ⟨m, Nat.lt_succ_self m, p⟩, ?_⟩
          refine hs g' o e4 H0 Oc pins ow' σ' H1 (R'.grow e1) _ ?_
          cases o with
          | nx g2 => exact fun ow3 σ3 H3 R3 => ⟨ow3, g2, R3, hl⟩
          | ct g2 => exact fun ow3 σ3 H3 R3 => ⟨ow3, g2, R3, hl⟩
          | bk g2 =>
            cases hl
            exact fun ow3 σ3 H3 R3 => P ow3 σ3 H3 R3
          | rt w =>
            cases hl
            cases w with
            | v d => exact P
            | o d => exact P
/-! ### xs.extend(a list), xs[::-1] -/
def sExt (i : Nat) (a : DF) : SF := fun g => (a g).bind fun d => match d, g[i]? with
  | .lst es, some (some (.o (.lst ds))) => if ds.length + es.length ≤ 100000 then some (.nx (g.set i (some (.o (.lst (ds ++ es)))))) else none
  | _, _ => none
theorem sr_ext {te : TE} {a : DF} {i : Nat} (ha : ER K te a) : SR K (tDrop (tBM K "list" rExtend (tVar i) (tCons te tNil))) (sExt i a) := fun g out h H0 Oc pins ow σ H R De P => by
  unfold sExt at h
  cases ea : a g with
  | none => rw [ea] at h; cases h
  | some d =>
    rw [ea, Option.bind_some] at h
    split at h
    · rename_i es ds hd
      split at h
      · rename_i hl
        cases h
        obtain ⟨p, h1, h2, xs, h3, h4⟩ := R.own i _ hd
        refine ⟨.ref p, h2, .inl ⟨rfl, _, .of h3⟩, ?_⟩
        refine ha g _ ea H0 Oc pins ow σ H R _ fun v H1 e1 r1 => ?_
        cases r1 with
        | @lst b zs _ nb e2 r2 =>
          have k : Kp (OO Oc ow) H1 (OO Oc ow) (upd H1 p (.lst (xs ++ zs))) := fun b o n q => ⟨n, by rw [upd_ne (fun z => n (.inr ⟨i, by rw [z]; exact h1⟩))]; exact q⟩
          refine ⟨p, b, xs, zs, rfl, rfl, e1 _ _ h3, e2, Evl.sz_of (by rw [h4.len, r2.len]; exact hl), P ow σ _ ((R.grow e1).upd hd h1 ⟨xs ++ zs, upd_same, RpA.app ((h4.ex e1).kp k) (r2.kp k)⟩)⟩
      · cases h
    · cases h
/-! ### calls with what is given by name, or left to stand -/
def gApp {α : Type} (n m : Nat) (xs ys : List α) : List α := if xs.length = n ∧ ys.length = m then xs ++ ys else []
def dCallK (n m : Nat) (gf : PF) (a b : DAF) : DF := fun g => (a g).bind fun ds => (b g).bind fun es => if ds.length = n ∧ es.length = m then (gf (ds ++ es)).map Wd.d else none
theorem er_callK {n m k : Nat} {gf : PF} {E : XK} {ta tb : TA} {a b : DAF} (hk : n + m = k) (ha : AR K ta a) (hb : AR K tb b) : ER K (tCallK (spG K k gf) (gApp n m) E ta tb) (dCallK n m gf a b) := fun g d h H0 Oc pins ow σ H R Q q => by
  unfold dCallK at h
  cases ea : a g with
  | none => rw [ea] at h; cases h
  | some ds =>
    rw [ea, Option.bind_some] at h
    cases eb : b g with
    | none => rw [eb] at h; cases h
    | some es =>
      rw [eb, Option.bind_some] at h
      split at h
      · rename_i hn
        cases ew : gf (ds ++ es) with
        | none => rw [ew] at h; cases h
        | some wd =>
          rw [ew] at h
          cases h
          refine ha g ds ea H0 Oc pins ow σ H R _ fun vs H1 e1 r1 => ?_
          refine hb g es eb H0 Oc pins ow σ H1 (R.grow e1) _ fun zs H2 e2 r2 => ?_
          have rr := (r1.ex e2).app r2
          have hg : gApp n m vs zs = vs ++ zs := if_pos ⟨by rw [r1.len]; exact hn.1, by rw [r2.len]; exact hn.2⟩
          refine ⟨OO Oc ow, _, wd, by rw [hg, rr.len, List.length_append, hn.1, hn.2]; exact hk, ((R.grow e1).grow e2).oo, by rw [hg]; exact rr, ew, ?_⟩
          cases wd with
          | v d => exact fun v H3 e3 r3 => q v H3 ((e1.trans e2).trans e3) r3
          | o d => exact fun p H3 e3 hp r3 => q _ H3 ((e1.trans e2).trans e3) (r3.toRp (((R.grow e1).grow e2).new hp))
      · cases h
theorem gApp_rel {n m : Nat} {vs : List V} {us : List Value} {zs : List V} {ws : List Value} (r : Vals vs us) (q : Vals zs ws) : Vals (gApp n m vs zs) (gApp n m us ws) := by
  unfold gApp
  rw [r.length, q.length]
  split
  · exact r.append q
  · exact .nil
end Zk
namespace Zk
open PySem L2
theorem gApp_len {α : Type} {n m p : Nat} {xs ys : List α} (h : (gApp n m xs ys).length = p + 1) : xs.length = n ∧ ys.length = m := by
  unfold gApp at h
  split at h
  · rename_i q; exact q
  · cases h
theorem hu1 {a : Nat} (h : a + 64 < cLine) : a + 1 < cLine := by omega
theorem funD_mk {K : PySem.W.Frag} {x qual : Str} {st : Stmt} {f D : Addr} {oc : Value} {od an : Option Addr} {osl : Array (Option Value)} {doc pm cdv ct : Value} {kw : Str} (l : K.lookup f = some ⟨oc, od, .func (PySem.W.fnOf x qual (defArgs st) (defBody st) (defScope st) .none (.ref D) doc pm an cdv ct), osl⟩)
    (c : PySem.W.codeIn K cdv qual = true) (k : PySem.W.keepIn K (.ref f) = true) (n : PySem.W.nsIn K D kw = some (some .none)) : FunD K x qual (defArgs st) (defBody st) (defScope st) [] [(kw, .non)] f (PySem.W.fnOf x qual (defArgs st) (defBody st) (defScope st) .none (.ref D) doc pm an cdv ct) :=
  ⟨⟨oc, od, .none, .ref D, doc, pm, an, cdv, ct, osl, rfl, l, c, .inl ⟨rfl, rfl⟩, .inr ⟨D, rfl, fun q hq => by
    rw [List.mem_singleton.mp hq]
    exact ⟨_, n, rfl⟩⟩⟩, k⟩
end Zk
namespace Zk
open PySem L2
open Evl (Ex)
variable {K : PySem.W.Frag}
/-- list(range(n)) -/
def lrD : D → Option D
  | .int n => if 0 ≤ n ∧ n ≤ 100000 then some (.lst (rngL 0 n.toNat)) else none
  | _ => none
theorem rgV_rp {O : Addr → Prop} {H : Hp} (n : Int) : RpA K O H (rgV 0 n) (rngL 0 n.toNat) := by
  unfold rgV rngL
  rw [Int.sub_zero]
  generalize List.range n.toNat = l
  induction l with
  | nil => exact .nil
  | cons i l ih => exact .cons (.int _) ih
theorem er_listRg {te : TE} {a : DF} (ha : ER K te a) : ER K (tLstRg (tRg1 te)) (d1 lrD a) := fun g d h H0 Oc pins ow σ H R Q q => by
  unfold d1 at h
  cases ea : a g with
  | none => rw [ea] at h; cases h
  | some x =>
    rw [ea, Option.bind_some] at h
    refine ha g x ea H0 Oc pins ow σ H R _ fun v H1 e1 r1 => ?_
    unfold lrD at h
    split at h
    · split at h
      · rename_i hn
        cases h
        cases r1
        exact ⟨_, rfl, RgOk.of_le (by decide) (by omega) (by decide) (by omega), rr_newL (R.grow e1).oo (fun w H' e' r' => q w H' (e1.trans e') r') (rgV_rp _)⟩
      · cases h
    · cases h
end Zk
namespace Zk
open PySem L2
open Evl (Ex)
variable {K : PySem.W.Frag}
/-- x += e, of ints -/
def sAugI (f : Int → Int → Int) (i : Nat) (a : DF) : SF := fun g => (dVar i g).bind fun x => (a g).bind fun y => match x, y with
  | .int x, .int y => (dName i (.int (f x y)) g).map .nx
  | _, _ => none
theorem sr_augI {f : Int → Int → Int} {i : Nat} {te : TE} {a : DF} (ha : ER K te a) : SR K (tAug i te (ipI f)) (sAugI f i a) := fun g out h H0 Oc pins ow σ H R De P => by
  unfold sAugI at h
  cases ex : dVar i g with
  | none => rw [ex] at h; cases h
  | some x =>
    rw [ex, Option.bind_some] at h
    cases ey : a g with
    | none => rw [ey] at h; cases h
    | some y =>
      rw [ey, Option.bind_some] at h
      split at h
      · rename_i x y
        cases ed : dName i (.int (f x y)) g with
        | none => rw [ed] at h; cases h
        | some g1 =>
          rw [ed] at h
          cases h
          unfold dName at ed
          split at ed
          · rename_i hi
            cases ed
            unfold dVar at ex
            split at ex
            · rename_i d' e
              cases ex
              obtain ⟨v, h1, r⟩ := R.val i _ e
              cases r
              refine ⟨.int x, h1, ?_⟩
              refine ha g _ ey H0 Oc pins ow σ H R _ fun w H1 e1 r1 => ?_
              cases r1
              exact ⟨x, y, rfl, rfl, P _ _ _ ((R.grow e1).setV hi (.int _))⟩
            · cases ex
          · cases ed
      · cases h
end Zk
end

section
set_option Elab.async false
set_option linter.all false
set_option maxRecDepth 100000
set_option autoImplicit false
set_option maxHeartbeats 2000000
/-! A dict of lists that are filled in their places. -/
namespace Zk
open PySem L2
open Evl (Ex)
variable {K : PySem.W.Frag}
abbrev SeatL : Type := List (List Key × List Int)
def addSeat (kvs : SeatL) (k : List Key) (i : Int) : SeatL := if (kvs.any fun kv => decide (kv.1 = k)) = true then kvs.map (fun kv => if kv.1 = k then (kv.1, kv.2 ++ [i]) else kv) else kvs ++ [(k, [i])]
def seatsD : Nat → List D → SeatL → Option SeatL
  | _, [], kvs => some kvs
  | n, .non :: ds, kvs => seatsD (n + 1) ds kvs
  | n, d :: ds, kvs => (keyD d).bind fun k => seatsD (n + 1) ds (addSeat kvs k (n : Int))
def seatD (kvs : SeatL) : D := .dct (kvs.map fun kv => (kv.1, .lst (iL kv.2)))
def tSeats : SF := fun g => match g with
  | [some (.v (.lst ds)), none, none, none] => if ds.length ≤ 100000 then (seatsD 0 ds []).map fun kvs => .rt (.o (seatD kvs)) else none
  | _ => none
/-- the dict at d, its lists new and each by itself -/
structure Dp (H0 H : Hp) (d : Addr) (xs : List (List Key × V)) (kvs : SeatL) : Prop where
  keys : xs.map (·.1) = kvs.map (·.1)
  nod : (kvs.map (·.1)).Nodup
  val : ∀ (j : Nat) (k : List Key) (es : List Int), kvs[j]? = some (k, es) → ∃ b, xs[j]? = some (k, .ref b) ∧ H0 b = none ∧ b ≠ d ∧ H b = some (.lst (es.map V.int))
  inj : ∀ (j l : Nat) (k k' : List Key) (b : Addr), xs[j]? = some (k, .ref b) → xs[l]? = some (k', .ref b) → j = l
theorem Dp.len {H0 H : Hp} {d : Addr} {xs : List (List Key × V)} {kvs : SeatL} (p : Dp H0 H d xs kvs) : xs.length = kvs.length := by
  have := congrArg List.length p.keys
  rw [List.length_map, List.length_map] at this
  exact this
theorem Dp.ex {H0 H H' : Hp} {d : Addr} {xs : List (List Key × V)} {kvs : SeatL} (p : Dp H0 H d xs kvs) (e : ∀ b o, H b = some o → b ≠ d → H' b = some o) : Dp H0 H' d xs kvs :=
  ⟨p.keys, p.nod, fun j k es h => let ⟨b, h1, h2, h3, h4⟩ := p.val j k es h; ⟨b, h1, h2, h3, e b _ h4 h3⟩, p.inj⟩
theorem any_key {α : Type} (l : List (List Key × α)) (k : List Key) : (l.any fun kv => decide (kv.1 = k)) = true ↔ k ∈ l.map (fun kv => kv.1) := by
  rw [List.any_eq_true, List.mem_map]
  exact ⟨fun ⟨x, h1, h2⟩ => ⟨x, h1, of_decide_eq_true h2⟩, fun ⟨x, h1, h2⟩ => ⟨x, h1, decide_eq_true h2⟩⟩
theorem valV_at {xs : List (List Key × V)} {k : List Key} {v : V} (h : valV xs k = some v) : ∃ j : Nat, xs[j]? = some (k, v) := by
  unfold valV at h
  cases e : xs.find? fun kv => decide (kv.1 = k) with
  | none => rw [e] at h; cases h
  | some kv =>
    rw [e] at h
    cases h
    have h1 : kv.1 = k := of_decide_eq_true (List.find?_some (p := fun kv : List Key × V => decide (kv.1 = k)) e)
    have h2 := List.mem_of_find?_eq_some e
    obtain ⟨j, hj⟩ := List.mem_iff_getElem?.mp h2
    exact ⟨j, by rw [hj, ← h1]⟩
theorem valV_no {xs : List (List Key × V)} {k : List Key} (h : valV xs k = none) : k ∉ xs.map (·.1) := fun z => by
  have e := valV_any k xs
  rw [h, (any_key xs k).mpr z] at e
  cases e
/-- one more item in the list of a key that is there -/
theorem Dp.more {H0 H : Hp} {d b : Addr} {xs : List (List Key × V)} {kvs : SeatL} (p : Dp H0 H d xs kvs) {k : List Key} {j : Nat} (hj : xs[j]? = some (k, .ref b)) (i : Int) :
    ∃ es, kvs[j]? = some (k, es) ∧ H b = some (.lst (es.map V.int)) ∧ Dp H0 (upd H b (.lst (es.map V.int ++ [.int i]))) d xs (addSeat kvs k i) := by
  have hk : (kvs.map (·.1))[j]? = some k := by rw [← p.keys, List.getElem?_map, hj]; rfl
  obtain ⟨es, e⟩ : ∃ es, kvs[j]? = some (k, es) := by
    rw [List.getElem?_map] at hk
    cases e : kvs[j]? with
    | none => rw [e] at hk; cases hk
    | some kv =>
      rw [e] at hk
      exact ⟨kv.2, by rw [← Option.some.inj hk]⟩
  · obtain ⟨b', h1, h2, h3, h4⟩ := p.val j k es e
    rw [hj] at h1
    cases h1
    refine ⟨es, e, h4, ?_⟩
    have hin : k ∈ kvs.map (·.1) := List.mem_map.mpr ⟨(k, es), List.mem_of_getElem? e, rfl⟩
    have ea : addSeat kvs k i = kvs.map fun kv => if kv.1 = k then (kv.1, kv.2 ++ [i]) else kv := by
      unfold addSeat
      rw [if_pos ((any_key kvs k).mpr hin)]
    have ek : (kvs.map fun kv => if kv.1 = k then (kv.1, kv.2 ++ [i]) else kv).map (·.1) = kvs.map (·.1) := by
      rw [List.map_map]
      refine List.map_congr_left fun kv _ => ?_
      show (if kv.1 = k then (kv.1, kv.2 ++ [i]) else kv).1 = kv.1
      split <;> rfl
    rw [ea]
    refine ⟨by rw [ek]; exact p.keys, by rw [ek]; exact p.nod, fun l k' es' hl => ?_, p.inj⟩
    rw [List.getElem?_map] at hl
    cases e2 : kvs[l]? with
    | none => rw [e2] at hl; cases hl
    | some kv =>
      rw [e2] at hl
      obtain ⟨k2, es2⟩ := kv
      obtain ⟨b2, g1, g2, g3, g4⟩ := p.val l k2 es2 e2
      by_cases hkk : k2 = k
      · have hl2 : (if k2 = k then (k2, es2 ++ [i]) else (k2, es2)) = (k', es') := Option.some.inj hl
        rw [if_pos hkk] at hl2
        cases hl2
        rw [hkk] at e2 g1 ⊢
        have hjl : j = l := by
          have a1 : (kvs.map (·.1))[j]? = some k := by rw [List.getElem?_map, e]; rfl
          have a2 : (kvs.map (·.1))[l]? = some k := by rw [List.getElem?_map, e2]; rfl
          exact (List.getElem?_inj (List.getElem?_eq_some_iff.mp a1).1 p.nod).mp (a1.trans a2.symm)
        subst hjl
        rw [hj] at g1
        cases g1
        rw [e] at e2
        cases e2
        exact ⟨b, hj, g2, g3, by rw [upd_same, List.map_append]; rfl⟩
      · have hl2 : (if k2 = k then (k2, es2 ++ [i]) else (k2, es2)) = (k', es') := Option.some.inj hl
        rw [if_neg hkk] at hl2
        cases hl2
        have nb : b2 ≠ b := fun z => by
          subst z
          have := p.inj j l _ _ _ hj g1
          subst this
          rw [e] at e2
          cases e2
          exact hkk rfl
        exact ⟨b2, g1, g2, g3, by rw [upd_ne nb]; exact g4⟩
/-- a new key -/
theorem Dp.new {H0 H : Hp} {d l : Addr} {xs : List (List Key × V)} {kvs : SeatL} (p : Dp H0 H d xs kvs) {k : List Key} (hk : k ∉ xs.map (·.1)) (hl0 : H0 l = none) (hld : l ≠ d) (hl : H l = none) (i : Int) {H' : Hp} (e : ∀ b o, H b = some o → b ≠ d → H' b = some o) (h' : H' l = some (.lst [.int i])) :
    Dp H0 H' d (xs ++ [(k, .ref l)]) (addSeat kvs k i) := by
  have hk2 : k ∉ kvs.map (·.1) := by rw [← p.keys]; exact hk
  have ea : addSeat kvs k i = kvs ++ [(k, [i])] := by
    unfold addSeat
    rw [if_neg fun z => hk2 ((any_key kvs k).mp z)]
  have hlen := p.len
  have old : ∀ (j : Nat) (k' : List Key) (b : Addr), xs[j]? = some (k', .ref b) → b ≠ l := fun j k' b h z => by
    have hj : j < kvs.length := by rw [← hlen]; exact (List.getElem?_eq_some_iff.mp h).1
    obtain ⟨b', h1, _, _, h4⟩ := p.val j _ _ (List.getElem?_eq_getElem hj)
    rw [h] at h1
    cases h1
    rw [z, hl] at h4
    cases h4
  rw [ea]
  refine ⟨by rw [List.map_append, List.map_append, p.keys]; rfl, ?_, fun j k' es h => ?_, fun j j' k1 k2 b h1 h2 => ?_⟩
  · rw [List.map_append, List.nodup_append]
    exact ⟨p.nod, by simp, fun a ha b hb z => hk2 (by simp at hb; rw [← hb, ← z]; exact ha)⟩
  · by_cases hj : j < kvs.length
    · rw [List.getElem?_append_left hj] at h
      obtain ⟨b, h1, h2, h3, h4⟩ := p.val j k' es h
      exact ⟨b, by rw [List.getElem?_append_left (by omega)]; exact h1, h2, h3, e b _ h4 h3⟩
    · rw [List.getElem?_append_right (by omega)] at h
      have h0 : j - kvs.length = 0 := by
        by_cases h0 : j - kvs.length = 0
        · exact h0
        · rw [List.getElem?_eq_none (by simp; omega)] at h; cases h
      rw [h0] at h
      cases h
      exact ⟨l, by rw [List.getElem?_append_right (by omega), hlen, h0]; rfl, hl0, hld, h'⟩
  · have lem : ∀ (j : Nat) (k1 : List Key), (xs ++ [(k, V.ref l)])[j]? = some (k1, .ref b) → (j < xs.length ∧ xs[j]? = some (k1, .ref b)) ∨ (j = xs.length ∧ b = l) := fun j k1 h => by
      by_cases hj : j < xs.length
      · rw [List.getElem?_append_left hj] at h; exact .inl ⟨hj, h⟩
      · rw [List.getElem?_append_right (by omega)] at h
        by_cases h0 : j - xs.length = 0
        · rw [h0] at h; cases h; exact .inr ⟨by omega, rfl⟩
        · rw [List.getElem?_eq_none (by simp; omega)] at h; cases h
    rcases lem j k1 h1 with ⟨a1, a2⟩ | ⟨a1, a2⟩ <;> rcases lem j' k2 h2 with ⟨b1, b2⟩ | ⟨b1, b2⟩
    · exact p.inj j j' k1 k2 b a2 b2
    · exact absurd b2 (old j k1 b a2)
    · exact absurd a2 (old j' k2 b b2)
    · omega
end Zk
end

section
set_option Elab.async false
set_option linter.all false
set_option maxRecDepth 100000
set_option autoImplicit false
set_option maxHeartbeats 2000000
/-! The loop that fills such a dict. -/
namespace Zk
open PySem L2
open Evl (Ex)
variable {K : PySem.W.Frag}
abbrev tsSeats (K : PySem.W.Frag) : TS := tSeq (tAsg tDNewT (gName 1)) (tSeq (tFor (TS.iEnumA K (tCons (tVar 0) tNil)) (gTup K 2 (gCons (gName 2) (gCons (gName 3) gNil)))
  (tIfS (tTest (tOp (fun x y H Q => y = .non ∧ Q (.bl (!decide (x = .non))) H) (tVar 3) (tC .non))) (tDrop (tBM K "list" rAppend (tDSetdT (tVar 1) (tVar 3) (tLst tNil)) (tCons (tVar 2) tNil))) tNext)) (tRet (tVar 1)))
theorem seatsD_non (n : Nat) (ds : List D) (kvs : SeatL) : seatsD n (.non :: ds) kvs = seatsD (n + 1) ds kvs := by rw [seatsD]
theorem seatsD_tup (n : Nat) (es ds : List D) (kvs : SeatL) : seatsD n (.tup es :: ds) kvs = (keyD (.tup es)).bind fun k => seatsD (n + 1) ds (addSeat kvs k (n : Int)) := by rw [seatsD]; exact fun z => by cases z
theorem seats_le {kvs : SeatL} {k : List Key} {i : Nat} {z : Int} (h : ∀ kv ∈ kvs, kv.2.length ≤ i) : ∀ kv ∈ addSeat kvs k z, kv.2.length ≤ i + 1 := by
  unfold addSeat
  split
  · intro kv hk
    obtain ⟨kw, h1, rfl⟩ := List.mem_map.mp hk
    have := h kw h1
    split
    · rw [List.length_append]; simp; exact this
    · omega
  · intro kv hk
    rcases List.mem_append.mp hk with h1 | h1
    · exact Nat.le_succ_of_le (h kv h1)
    · rw [List.mem_singleton.mp h1]; simp
theorem rpa_seats {O : Addr → Prop} {H : Hp} : ∀ (kvs : SeatL) (xs : List (List Key × V)), xs.length = kvs.length → (∀ (j : Nat) (k : List Key) (es : List Int), kvs[j]? = some (k, es) → ∃ b, xs[j]? = some (k, .ref b) ∧ ¬ O b ∧ H b = some (.lst (es.map V.int))) →
    RpA K O H (xs.map (·.2)) (kvs.map ((·.2) ∘ fun kv : List Key × List Int => (kv.1, D.lst (iL kv.2))))
  | [], [], _, _ => .nil
  | [], _ :: _, e, _ => by cases e
  | _ :: _, [], e, _ => by cases e
  | (k, es) :: kvs, (k2, v) :: xs, e, h => by
    obtain ⟨b, h1, h2, h3⟩ := h 0 k es rfl
    cases h1
    exact .cons (.lst h2 h3 (RpA.ofInts es)) (rpa_seats kvs xs (Nat.succ.inj e) fun j k' es' hj => h (j + 1) k' es' hj)
theorem seats_go {H0 H : Hp} {Oc : Addr → Prop} {pins : Pn} {ow : OW} {σ : L2.St} {ds : List D} {kvs : SeatL} {De : Ends} (R : Reps K H0 Oc pins ow σ H [some (.v (.lst ds)), none, none, none]) (hl : ds.length ≤ 100000) (h : seatsD 0 ds [] = some kvs)
    (P : ∀ p H', Ex H0 H' → H0 p = none → RpO K (fun a => Oc a ∨ a = p) H' p (seatD kvs) → De.rt (.ref p) H') : tsSeats K De σ H := by
  obtain ⟨v0, hσ0, r0⟩ := R.val 0 _ rfl
  cases r0 with
  | @lst a xs0 _ na ha r0 =>
    have hσl : σ.length = 4 := R.len
    have h00 : ∀ b, H b = none → H0 b = none := fun b z => Evl.fresh_back R.ex z
    intro d hd
    have hda : a ≠ d := fun z => by rw [z, hd] at ha; cases ha
    -- what is held between turns
    let Pv : Nat → L2.St → Hp → Prop := fun i σ' H' => ∃ (xs : List (List Key × V)) (cur : SeatL), σ'.length = 4 ∧ σ'[0]? = some (some (.ref a)) ∧ σ'[1]? = some (some (.ref d)) ∧ (∀ b o, H b = some o → H' b = some o) ∧ H' d = some (.dT xs) ∧ Dp H H' d xs cur ∧ cur.length ≤ i ∧ (∀ kv ∈ cur, kv.2.length ≤ i) ∧ seatsD i (ds.drop i) cur = some kvs
    have ex1 : Ex H (upd H d (.dT [])) := Evl.Ex.new hd
    refine ⟨.ref a, by rw [List.getElem?_set_ne (by decide)]; exact hσ0, .inl ⟨a, xs0, rfl, .of (ex1 _ _ ha), ?_⟩⟩
    refine ⟨fun i m σ' H' => m = ds.length - i ∧ i ≤ ds.length ∧ Pv i σ' H', ⟨ds.length, rfl, Nat.zero_le _, [], [], by rw [List.length_set]; exact hσl, by rw [List.getElem?_set_ne (by decide)]; exact hσ0, List.getElem?_set_self (by omega), ex1, upd_same, ⟨rfl, .nil, fun j k es z => (by simp at z), fun j l k k' b z => (by simp at z)⟩, Nat.le_refl _, fun kv z => (by cases z), h⟩, ?_⟩
    rintro i m σ' H' ⟨rfl, hi, xs, cur, hσ, s0, s1, eH, hdT, dp, hcl, hcv, hs⟩
    have hxl := dp.len
    by_cases hlt : i < ds.length
    · have hx : ∃ v, xs0[i]? = some v ∧ Rp K (OO Oc ow) H v ds[i] := r0.get (List.getElem?_eq_getElem hlt)
      obtain ⟨v, hv, rv⟩ := hx
      refine .inr ⟨⟨xs0, v, .of (eH _ _ ha), hv⟩, Pv (i + 1), fun σ2 H2 p => ⟨ds.length - (i + 1), by omega, rfl, hlt, p⟩, ?_⟩
      rintro x H2 ⟨T, w, rfl, hT, rfl, hw⟩
      have ew := hw xs0 (.of (eH _ _ ha))
      rw [hv] at ew
      cases ew
      have exT : Ex H' (upd H' T (.tup [.int (i : Nat), v])) := Evl.Ex.new hT
      have hTd : d ≠ T := fun z => by rw [← z, hdT] at hT; cases hT
      refine ⟨T, _, rfl, .of upd_same, rfl, _, _, rfl, _, _, rfl, rfl, ?_⟩
      have t0 : ((σ'.set 2 (some (.int (i : Nat)))).set 3 (some v))[0]? = some (some (.ref a)) := by rw [List.getElem?_set_ne (by decide), List.getElem?_set_ne (by decide)]; exact s0
      have t1 : ((σ'.set 2 (some (.int (i : Nat)))).set 3 (some v))[1]? = some (some (.ref d)) := by rw [List.getElem?_set_ne (by decide), List.getElem?_set_ne (by decide)]; exact s1
      have t2 : ((σ'.set 2 (some (.int (i : Nat)))).set 3 (some v))[2]? = some (some (.int (i : Nat))) := by rw [List.getElem?_set_ne (by decide), List.getElem?_set_self (by omega)]
      have t3 : ((σ'.set 2 (some (.int (i : Nat)))).set 3 (some v))[3]? = some (some v) := List.getElem?_set_self (by rw [List.length_set]; omega)
      have tl : ((σ'.set 2 (some (.int (i : Nat)))).set 3 (some v)).length = 4 := by rw [List.length_set, List.length_set]; exact hσ
      generalize ((σ'.set 2 (some (.int (i : Nat)))).set 3 (some v)) = τ at t0 t1 t2 t3 tl ⊢
      have hdrop : ds.drop i = ds[i] :: ds.drop (i + 1) := List.drop_eq_getElem_cons hlt
      rw [hdrop] at hs
      have eT : ∀ b o, H b = some o → upd H' T (.tup [.int (i : Nat), v]) b = some o := fun b o z => exT _ _ (eH _ _ z)
      refine ⟨v, t3, rfl, _, rfl, ?_⟩
      generalize ds[i] = dv at rv hs
      cases rv <;> first | (exfalso; revert hs; simp [seatsD, keyD]; done) | skip
      · -- None
        rw [seatsD_non] at hs
        rw [decide_eq_true (rfl : (V.non = V.non))]
        refine ⟨xs, cur, tl, t0, t1, eT, exT _ _ hdT, dp.ex fun b o z _ => exT _ _ z, by omega, fun kv z => Nat.le_succ_of_le (hcv kv z), hs⟩
      · -- a pair
        rename_i b ys es nb hb ry
        rw [seatsD_tup] at hs
        cases ek : keyD (.tup es) with
        | none => rw [ek] at hs; cases hs
        | some ks =>
          rw [ek, Option.bind_some] at hs
          have hb2 : H b = some (.tup (ks.map kV)) := by rw [hb, keyEs_rp ry ek]
          rw [decide_eq_false (show ¬ (V.ref b = V.non) from fun z => by cases z)]
          have hdT2 : upd H' T (.tup [.int (i : Nat), .ref b]) d = some (.dT xs) := exT _ _ hdT
          have dp2 : Dp H (upd H' T (.tup [.int (i : Nat), .ref b])) d xs cur := dp.ex fun b o z _ => exT _ _ z
          have e0 : ∀ q, upd H' T (.tup [.int (i : Nat), .ref b]) q = none → H q = none := fun q z => by
            cases y : H q with
            | none => rfl
            | some o => rw [eT _ _ y] at z; cases z
          generalize upd H' T (.tup [.int (i : Nat), .ref b]) = H2 at eT hdT2 dp2 e0 ⊢
          refine ⟨.ref d, t1, d, rfl, .inr ⟨xs, .inl hdT2⟩, .ref b, t3, by decide, fun l hl2 => ?_⟩
          have hld : l ≠ d := fun z => by rw [z, hdT2] at hl2; cases hl2
          have ex3 : Ex H2 (upd H2 l (.lst [])) := Evl.Ex.new hl2
          refine ⟨xs, ks, b, ex3 _ _ hdT2, rfl, ex3 _ _ (eT _ _ hb2), Evl.sz_lt (by rw [hxl]; omega), fun w hw => ?_, fun hn => ?_⟩
          · -- the key is there
            obtain ⟨j, hj⟩ := valV_at hw
            have hjl : j < cur.length := by rw [← hxl]; exact (List.getElem?_eq_some_iff.mp hj).1
            obtain ⟨b1, h1, _, _, _⟩ := dp2.val j _ _ (List.getElem?_eq_getElem hjl)
            rw [hj] at h1
            have ew : w = .ref b1 := (Prod.mk.inj (Option.some.inj h1)).2
            subst ew
            have dp3 : Dp H (upd H2 l (.lst [])) d xs cur := dp2.ex fun b o z _ => ex3 _ _ z
            obtain ⟨es2, g1, g2, g3⟩ := dp3.more hj (i : Int)
            obtain ⟨b2, k1, k2, k3, k4⟩ := dp3.val j _ _ g1
            rw [hj] at k1
            cases k1
            have hb1 : ∀ q o, H q = some o → upd (upd H2 l (.lst [])) b1 (.lst (es2.map V.int ++ [.int (i : Int)])) q = some o := fun q o z => by
              have nq : q ≠ b1 := fun y => by rw [y, k2] at z; cases z
              rw [upd_ne nq]
              exact ex3 _ _ (eT _ _ z)
            refine ⟨.inl ⟨rfl, _, .of g2⟩, .int (i : Nat), t2, b1, _, _, rfl, rfl, g2, Evl.sz_lt ?_, xs, addSeat cur ks (i : Int), tl, t0, t1, hb1, by rw [upd_ne (Ne.symm k3)]; exact ex3 _ _ hdT2, g3, ?_, seats_le hcv, hs⟩
            · rw [List.length_map]
              have : es2.length ≤ i := hcv _ (List.mem_of_getElem? g1)
              omega
            · have : (addSeat cur ks (i : Int)).length = cur.length := by
                unfold addSeat
                split
                · rw [List.length_map]
                · rename_i z
                  exact absurd ((any_key cur ks).mpr (List.mem_map.mpr ⟨_, List.mem_of_getElem? g1, rfl⟩)) z
              omega
          · -- a new key
            have hno := valV_no hn
            have ep : putK xs ks (.ref l) = xs ++ [(ks, .ref l)] := by
              unfold putK
              have := valV_any ks xs
              rw [hn] at this
              rw [this]
              rfl
            rw [ep]
            have e4 : ∀ q o, H2 q = some o → q ≠ d → upd (upd H2 l (.lst [])) d (.dT (xs ++ [(ks, .ref l)])) q = some o := fun q o z nq => by rw [upd_ne nq]; exact ex3 _ _ z
            have hl4 : upd (upd H2 l (.lst [])) d (.dT (xs ++ [(ks, .ref l)])) l = some (.lst []) := by rw [upd_ne hld, upd_same]
            refine ⟨.inl ⟨rfl, _, .of hl4⟩, .int (i : Nat), t2, l, _, _, rfl, rfl, hl4, Evl.sz_lt (by simp), xs ++ [(ks, .ref l)], addSeat cur ks (i : Int), tl, t0, t1, fun q o z => ?_, by rw [upd_ne (Ne.symm hld), upd_same], ?_, ?_, seats_le hcv, hs⟩
            · have nq : q ≠ d := fun y => by rw [y, hd] at z; cases z
              have nl : q ≠ l := fun y => by rw [y, e0 l hl2] at z; cases z
              rw [upd_ne nl]
              exact e4 q o (eT _ _ z) nq
            · refine dp2.new hno (e0 l hl2) hld hl2 (i : Int) (fun q o z nq => ?_) (by rw [upd_same]; rfl)
              have nl : q ≠ l := fun y => by rw [y, hl2] at z; cases z
              rw [upd_ne nl]
              exact e4 q o z nq
            · have hk2 : ks ∉ cur.map (·.1) := by rw [← dp2.keys]; exact hno
              have : addSeat cur ks (i : Int) = cur ++ [(ks, [(i : Int)])] := by
                unfold addSeat
                rw [if_neg fun z => hk2 ((any_key cur ks).mp z)]
              rw [this, List.length_append]
              simp
              omega
    · have e : i = ds.length := by omega
      subst e
      refine .inl ⟨⟨xs0, .of (eH _ _ ha), by rw [r0.len]; exact Nat.le_refl _⟩, ?_⟩
      rw [List.drop_length] at hs
      have : cur = kvs := by unfold seatsD at hs; exact Option.some.inj hs
      subst this
      refine ⟨.ref d, s1, P d H' (fun b o z => eH _ _ (R.ex _ _ z)) (h00 d hd) ⟨xs, hdT, ?_, ?_⟩⟩
      · rw [List.map_map]; exact dp.keys
      · rw [List.map_map]
        exact rpa_seats cur xs dp.len fun j k es hj => by
          obtain ⟨b, h1, h2, h3, h4⟩ := dp.val j k es hj
          refine ⟨b, h1, ?_, h4⟩
          rintro (z | z)
          · exact (R.oc b z).1 (h00 b h2)
          · exact h3 z
theorem sr_seats : SR K (tsSeats K) tSeats := fun g out h H0 Oc pins ow σ H R De P => by
  unfold tSeats at h
  split at h
  · rename_i ds
    split at h
    · rename_i hl
      cases e : seatsD 0 ds [] with
      | none => rw [e] at h; cases h
      | some kvs =>
        rw [e] at h
        cases h
        exact seats_go R hl e P
    · cases h
  · cases h
end Zk
end

section
set_option Elab.async false
set_option linter.all false
set_option maxRecDepth 100000
set_option autoImplicit false
set_option maxHeartbeats 2000000
/-! A call whose answer is either a new thing or a value, kept as it is. -/
namespace Zk
open PySem L2
open Evl (Ex)
variable {K : PySem.W.Frag}
theorem eo_revL {te : TE} {a : DF} (ha : ER K te a) : EO K (tRevL K te) (d1 revD a) := fun g d h H0 Oc pins ow σ H R Q q => by
  unfold d1 at h
  cases ea : a g with
  | none => rw [ea] at h; cases h
  | some x =>
    rw [ea, Option.bind_some] at h
    refine ha g x ea H0 Oc pins ow σ H R _ fun v H1 e1 r1 => ?_
    unfold revD at h
    split at h
    · cases h
      cases r1 with
      | @lst b xs ds n e r =>
        refine ⟨_, _, rfl, .of e, fun l hl => ?_⟩
        have e2 := Evl.Ex.new (o := .lst xs.reverse) hl
        refine q _ _ (e1.trans e2) (Evl.fresh_back e1 hl) ⟨xs.reverse, upd_same, r.reverse.kp fun b o n e => ⟨fun z => ?_, e2 b o e⟩⟩
        rcases z with z | z
        · exact n z
        · rw [z, hl] at e; cases e
    · cases h
def sAsgW (a : Gm → Option Wd) (i : Nat) : SF := fun g => (a g).bind fun w => if okSlot g i = true then some (.nx (g.set i (some w))) else none
end Zk
namespace Zk
open PySem L2
open Evl (Ex)
variable {K : PySem.W.Frag}
end Zk
end

section
set_option Elab.async false
set_option linter.all false
set_option maxRecDepth 100000
set_option autoImplicit false
set_option maxHeartbeats 4000000
/-! Defs that are called where no guard stands; repr of data. -/
namespace Zg
open PySem PySem.Spec L2 Zk PyProof.Rows
open Evl (Ex)
/-- as FnOk, where no guard stands -/
structure FnG (P : Program) (w : World) (K : PySem.W.Frag) (mg : Str → Option Value) (base : Heap) (k : Nat) (f : Addr) (fd : FuncData) (ps : List Str) (sp : Sp) : Prop where
  len : ∀ vs H Q E, sp vs H Q E → vs.length = ps.length
  run : ∀ (A : Around), A.guards = some [] → ∀ (outer : List Env) (s : Shared) (H : Hp) (args : Args) (us : List Value) (vs : List V) (Q : VK) (E : XK), Room k A → Env0 P w K mg base A outer s H → BindsTo s fd args (ps.zip us) → Vals vs us → sp vs H Q E →
    codeAny (model P w) A (.call (.ref f) args) (CR CX0 outer P w H s Q E) s
section
variable {P : Program} {w : World} {K : PySem.W.Frag} {mg : Str → Option Value} {base : Heap}
theorem FnG.imp {k : Nat} {f : Addr} {fd : FuncData} {ps : List Str} {sp sp' : Sp} (F : FnG P w K mg base k f fd ps sp) (h : ∀ vs H Q E, sp' vs H Q E → sp vs H Q E) : FnG P w K mg base k f fd ps sp' :=
  ⟨fun vs H Q E q => F.len vs H Q E (h _ _ _ _ q), fun A hg outer s H args us vs Q E hr he hb hv hs => F.run A hg outer s H args us vs Q E hr he hb hv (h _ _ _ _ hs)⟩
theorem FnG.mono {j k : Nat} {f : Addr} {fd : FuncData} {ps : List Str} {sp : Sp} (F : FnG P w K mg base j f fd ps sp) (h : j ≤ k) : FnG P w K mg base k f fd ps sp :=
  ⟨F.len, fun A hg outer s H args us vs Q E hr => F.run A hg outer s H args us vs Q E (hr.mono h)⟩
end
/-! ### calls -/
section
variable {X : Cx} {k : Nat} {f : Addr} {fd : FuncData} {ps : List Str} {sp : Sp} {x : Str} {p pos : Pos} {e : Expr} {es : List Expr} {t : TA}
/-! ### the law's own call -/
section
variable {P : Program} {w : World} {K : PySem.W.Frag} {mg mb : Str → Option Value} {k : Nat} {fa a : Addr} {fd : FuncData} {x : Str} {sp : Sp} {s₁ : Shared} {vs : List Value} {ns : List Int}
end
/-! ### repr -/
end
/-! ### tuples may be read off what is owned -/
mutual
def shD : D → Bool
  | .non => true | .bl _ => true | .int _ => true | .str _ => true | .ty _ => true | .cls _ => true
  | .tup ds => shDs ds
  | _ => false
def shDs : List D → Bool
  | [] => true
  | d :: ds => shD d && shDs ds
end
section
variable {K : PySem.W.Frag} {O O' : Addr → Prop} {H : Hp}
mutual
theorem rp_sh (o : ∀ a, O' a → Lv H a) : ∀ {d : D} {v : V}, Rp K O H v d → shD d = true → Rp K O' H v d
  | .non, _, .non, _ => .non
  | .bl _, _, .bl b, _ => .bl b
  | .int _, _, .int i, _ => .int i
  | .str _, _, .str s, _ => .str s
  | .ty _, _, .ty n, _ => .ty n
  | .cls _, _, .cls C, _ => .cls C
  | .tup ds, _, .tup n h r, f => .tup (fun z => (o _ z).2 _ h) h (rps_sh o r f)
  | .lst _, _, _, f => by cases f
  | .scr _, _, _, f => by cases f
  | .ins _ _, _, _, f => by cases f
  | .dct _, _, _, f => by cases f
  | .dck _, _, _, f => by cases f
  | .sti _ _, _, _, f => by cases f
  | .exn _ _ _ _, _, _, f => by cases f
  | .adr _ _, _, _, f => by cases f
theorem rps_sh (o : ∀ a, O' a → Lv H a) : ∀ {ds : List D} {vs : List V}, RpA K O H vs ds → shDs ds = true → RpA K O' H vs ds
  | [], _, .nil, _ => .nil
  | d :: ds, _, .cons r t, f => by
    unfold shDs at f
    rw [Bool.and_eq_true] at f
    exact .cons (rp_sh o r f.1) (rps_sh o t f.2)
end
end
/-! ### is True -/
end Zg
end

section
set_option Elab.async false
set_option linter.all false
set_option maxRecDepth 100000
set_option autoImplicit false
set_option maxHeartbeats 4000000
/-! Defs that raise: what leaves them, and what catches it. -/
namespace Zx
open PyProof.Rows hiding St
open PySem PySem.Spec L2 Zk
open Evl (Ex)
/-- what a statement raises: the class, and the slots as they stand then -/
abbrev XF : Type := Gm → Option (Addr × Gm)
section
variable {K : PySem.W.Frag} {W : WX} {ts tu : TS} {x y : XF} {t : SF} {tt : TT} {c : DTF}
end
/-! ### X() -/
section
variable {X : Cx} {C : Addr} {bmB : List Value} {B newId initId : String} {st : Stmt} {t : TS}
end
/-! ### a def that raises -/
section
variable {P : Program} {w : World} {K : PySem.W.Frag} {mg : Str → Option Value} {base : Heap}
end
/-! ### a call that raises, within a try -/
section
variable {X : Cx} {CX : CXT} {k : Nat} {f : Addr} {fd : FuncData} {ps ks : List Str} {sp : Sp} {E : St → XK} {x : Str} {p pos : Pos} {e : Expr} {es : List Expr} {kws : List Keyword} {ta tb : TA}
variable {g : List Value → List Value → List Value} {gV : List V → List V → List V}
end
section
variable {K : PySem.W.Frag} {W : WX} {ta tb : TA} {a b : DAF} {te : TE} {x : XF}
end
/-! ### the suite: slot i holds the exception at a -/
section
variable {i : Nat} {a : Addr} {σ : St} {te : TE} {tt : TT} {ts : TS}
end
section
variable {K : PySem.W.Frag} {i : Nat} {a : Addr} {te tf : TE} {tt tu : TT} {ts tv : TS} {d d2 : DF} {t u : DTF} {s v : SF}
end
/-! ### isinstance(e, C), isinstance(e, (A, B)) -/
section
variable {K : PySem.W.Frag} {i : Nat} {a D : Addr} {c : V} {cv : Value} {b : Bool}
end
/-! ### try -/
section
variable {K : PySem.W.Frag} {i : Nat} {c : Value} {x : XF} {hd : SF} {tb : WX → TS} {tsD : Addr → Addr → TS} {Wout : WX}
end
end Zx
end

section
set_option Elab.async false
set_option linter.all false
set_option maxRecDepth 100000
set_option autoImplicit false
set_option maxHeartbeats 4000000
/-! sorted(a list of pairs of ints), any number of them. -/
namespace Zv
open PyProof.Rows hiding St
open PySem PySem.Spec L2 Zk
open Evl (Ex)
abbrev Pr := Int × Int
/-- not behind -/
def LexLe (p q : Pr) : Prop := p.1 < q.1 ∨ (p.1 = q.1 ∧ p.2 ≤ q.2)
instance (p q : Pr) : Decidable (LexLe p q) := by unfold LexLe; infer_instance
def adr : Value → Addr
  | .ref t => t
  | _ => 0
section
variable {X : Cx}
end
/-! ### the same on data -/
section
variable {K : PySem.W.Frag} {O : Addr → Prop} {H : Hp}
end
end Zv
end

section
set_option Elab.async false
set_option linter.all false
set_option maxRecDepth 100000
set_option autoImplicit false
set_option maxHeartbeats 2000000
/-! match x: case (tag, a, b): .. -/
namespace Zm
open PySem L2 Zk PyProof.Rows
open Evl (Ex)
section
variable {X : Cx} {pins : List (Addr × Obj)} {σ : L2.St} {H : Hp} {s : Shared}
/-- plain captures, into slots -/
inductive CapsOk (X : Cx) : List Pattern → List Nat → Prop
  | nil : CapsOk X [] []
  | cons {x : Str} {p : Pos} {j : Nat} {ps : List Pattern} {js : List Nat} (hj : X.N[j]? = some x) (hl : X.env.scope.names.lookup x = some .local) (h : CapsOk X ps js) : CapsOk X (.MatchAs none (some x) p :: ps) (j :: js)
theorem CapsOk.len : ∀ {ps : List Pattern} {js : List Nat}, CapsOk X ps js → ps.length = js.length
  | _, _, .nil => rfl
  | _, _, .cons _ _ h => congrArg (· + 1) h.len
/-- the cases, each with its tag, its slots and its body's reading -/
inductive PMs (X : Cx) : List MatchCase → List (Str × List Nat × TS) → Prop
  | nil : PMs X [] []
  | cons {tag : Str} {kk : Nat} {pp p1 pos : Pos} {caps : List Pattern} {js : List Nat} {body : List Stmt} {ts : TS} {rest : List MatchCase} {cs : List (Str × List Nat × TS)}
    (ck : CapsOk X caps js) (hb : PSs X body ts) (h : PMs X rest cs) : PMs X (⟨.MatchSequence (.MatchValue (.Constant (.str tag) kk pp) p1 :: caps) pos, none, body⟩ :: rest) ((tag, js, ts) :: cs)
end
/-! ### the same on data -/
section
variable {K : PySem.W.Frag}
abbrev Cse := Str × List Nat × SF
inductive SRs (K : PySem.W.Frag) : List (Str × List Nat × TS) → List Cse → Prop
  | nil : SRs K [] []
  | cons {tag : Str} {js : List Nat} {ts : TS} {s : SF} {cs : List (Str × List Nat × TS)} {ds : List Cse} (h : SR K ts s) (r : SRs K cs ds) : SRs K ((tag, js, ts) :: cs) ((tag, js, s) :: ds)
/-! step by step -/
end
end Zm
end

section
set_option Elab.async false
set_option linter.all false
set_option maxRecDepth 100000
set_option autoImplicit false
set_option maxHeartbeats 2000000
/-! Reckoning with the data. -/
namespace Zk
open PySem L2
/-- a loop by a word over the turn's number -/
theorem loop_inv {f : DGF} {s : SF} {ds : List D} (I : Nat → Gm → Prop) {g : Gm} (h0 : I 0 g) (hs : ∀ (i : Nat) (d : D) (g : Gm), ds[i]? = some d → I i g → ∃ g1 g2, f d g = some g1 ∧ (s g1 = some (.nx g2) ∨ s g1 = some (.ct g2)) ∧ I (i + 1) g2) :
    ∃ g', loopD f s ds g = some (.nx g') ∧ I ds.length g' := by
  induction ds generalizing I g with
  | nil => exact ⟨g, rfl, h0⟩
  | cons d ds ih =>
    obtain ⟨g1, g2, h1, h2, h3⟩ := hs 0 d g rfl h0
    obtain ⟨g', e, h4⟩ := ih (fun i g => I (i + 1) g) h3 fun i e g he hI => hs (i + 1) e g (by simpa using he) hI
    refine ⟨g', ?_, h4⟩
    unfold loopD
    rw [h1, Option.bind_some]
    rcases h2 with h2 | h2
    · rw [h2]; exact e
    · rw [h2]; exact e
end Zk
end

section
set_option Elab.async false
set_option linter.all false
set_option maxRecDepth 100000
set_option autoImplicit false
set_option maxHeartbeats 2000000
/-! The combinators, step by step. -/
namespace Zk
open PySem L2
section
variable {f f' : D → D → Option D} {h : D → Option D} {hN : List D → Option D} {a b c : DF} {r : DAF} {g : Gm} {x y d e : D} {xs ds : List D} {t u : DTF} {s q : SF} {i n : Nat} {o : Option Wd} {k : Bool} {tg : DGF}
def ap1 {α : Type} (h : D → Option α) : Option D → Option α := fun x => x.bind h
theorem ap1_some {α : Type} {h : D → Option α} : ap1 h (some x) = h x := rfl
def ap2 (f : D → D → Option D) : Option D → Option D → Option D := fun x y => x.bind fun x => y.bind fun y => f x y
theorem ap2_some : ap2 f (some x) (some y) = f x y := rfl
def apN (h : List D → Option D) : Option (List D) → Option D := fun x => x.bind h
theorem apN_some : apN hN (some xs) = hN xs := rfl
def apC : Option D → Option (List D) → Option (List D) := fun x r => x.bind fun x => r.bind fun xs => some (x :: xs)
theorem apC_some : apC (some x) (some xs) = some (x :: xs) := rfl
theorem d1_a : d1 h a g = ap1 h (a g) := rfl
theorem d2_a : d2 f a b g = ap2 f (a g) (b g) := rfl
theorem dN_a : dN hN r g = apN hN (r g) := rfl
theorem aNil_a : aNil g = some [] := rfl
theorem aCons_a : aCons a r g = apC (a g) (r g) := rfl
theorem dC_a : dC d g = some d := rfl
theorem dVar_z : dVar 0 (some (.v d) :: g) = some d := rfl
theorem dVar_s : dVar (i + 1) (o :: g) = dVar i g := rfl
theorem tDt_a {h : D → Option Bool} : tDt h a g = ap1 h (a g) := rfl
def apAnd : Option Bool → DTF → Gm → Option Bool := fun x b g => x.bind fun x => if x = true then b g else some false
theorem apAnd_t : apAnd (some true) u g = u g := rfl
theorem apAnd_f : apAnd (some false) u g = some false := rfl
def apOr : Option Bool → DTF → Gm → Option Bool := fun x b g => x.bind fun x => if x = true then some true else b g
theorem apOr_t : apOr (some true) u g = some true := rfl
theorem apOr_f : apOr (some false) u g = u g := rfl
theorem dAndT_a : dAndT t u g = apAnd (t g) u g := rfl
theorem dOrT_a : dOrT t u g = apOr (t g) u g := rfl
def apNot : Option Bool → Option Bool := fun x => x.map (!·)
theorem apNot_some : apNot (some k) = some (!k) := rfl
theorem dNotT_a : dNotT t g = apNot (t g) := rfl
def apAndV : Option D → DF → Gm → Option D := fun x b g => x.bind fun x => match x with
  | .bl true => b g
  | .bl false => some (.bl false)
  | _ => none
theorem apAndV_t : apAndV (some (.bl true)) b g = b g := rfl
theorem apAndV_f : apAndV (some (.bl false)) b g = some (.bl false) := rfl
theorem dAndV_a : dAndV a b g = apAndV (a g) b g := rfl
def apOrV : Option D → DF → Gm → Option D := fun x b g => x.bind fun x => match x with
  | .bl true => some (.bl true)
  | .bl false => b g
  | _ => none
theorem apOrV_t : apOrV (some (.bl true)) b g = some (.bl true) := rfl
theorem apOrV_f : apOrV (some (.bl false)) b g = b g := rfl
theorem dOrV_a : dOrV a b g = apOrV (a g) b g := rfl
def apIf : Option Bool → DF → DF → Gm → Option D := fun x a b g => x.bind fun x => if x = true then a g else b g
theorem apIf_t : apIf (some true) a b g = a g := rfl
theorem apIf_f : apIf (some false) a b g = b g := rfl
theorem dIf_a : dIf t a b g = apIf (t g) a b g := rfl
def apCh (f' : D → D → Option D) (y : D) (c : DF) (g : Gm) : Option D → Option D := fun z => z.bind fun z => match z with
  | .bl true => (c g).bind fun w => f' y w
  | .bl false => some (.bl false)
  | _ => none
theorem apCh_t : apCh f' y c g (some (.bl true)) = ap2 f' (some y) (c g) := rfl
theorem apCh_f : apCh f' y c g (some (.bl false)) = some (.bl false) := rfl
def apChain (f f' : D → D → Option D) : Option D → Option D → DF → Gm → Option D := fun x y c g => x.bind fun x => y.bind fun y => apCh f' y c g (f x y)
theorem apChain_some : apChain f f' (some x) (some y) c g = apCh f' y c g (f x y) := rfl
theorem dChain_a : dChain f f' a b c g = apChain f f' (a g) (b g) c g := rfl
/-! ### statements -/
def apSeq : Option Out → SF → Option Out := fun o u => o.bind fun o => sThen o u
theorem apSeq_nx {g : Gm} : apSeq (some (.nx g)) q = q g := (rfl)
theorem apSeq_rt {w : Wd} : apSeq (some (.rt w)) q = some (.rt w) := rfl
theorem apSeq_ct {g : Gm} : apSeq (some (.ct g)) q = some (.ct g) := rfl
theorem apSeq_bk {g : Gm} : apSeq (some (.bk g)) q = some (.bk g) := rfl
theorem sSeq_a : sSeq s q g = apSeq (s g) q := rfl
def apIfS : Option Bool → SF → SF → Gm → Option Out := fun x s u g => x.bind fun x => if x = true then s g else u g
theorem apIfS_t : apIfS (some true) s q g = s g := rfl
theorem apIfS_f : apIfS (some false) s q g = q g := rfl
theorem sIf_a : sIf t s q g = apIfS (t g) s q g := rfl
theorem sNext_a : sNext g = some (.nx g) := rfl
theorem sCont_a : sCont g = some (.ct g) := rfl
theorem sBreak_a : sBreak g = some (.bk g) := rfl
def apRet : Option D → Option Out := fun x => x.map fun d => .rt (.v d)
theorem apRet_some : apRet (some d) = some (.rt (.v d)) := rfl
theorem sRet_a : sRet a g = apRet (a g) := rfl
def apRetO : Option D → Option Out := fun x => x.map fun d => .rt (.o d)
theorem apRetO_some : apRetO (some d) = some (.rt (.o d)) := rfl
theorem sRetO_a : sRetO a g = apRetO (a g) := rfl
theorem sRetN_a : sRetN g = some (.rt (.v .non)) := rfl
def getO : Gm → Nat → Option D := fun g i => match g[i]? with
  | some (some (.o d)) => some d
  | _ => none
theorem getO_z : getO (some (.o d) :: g) 0 = some d := rfl
theorem getO_s : getO (o :: g) (i + 1) = getO g i := rfl
def apRetV : Option D → Option Out := fun x => x.map fun d => .rt (.o d)
theorem apRetV_some : apRetV (some d) = some (.rt (.o d)) := rfl
theorem sRetV_a : sRetV i g = apRetV (getO g i) := by
  unfold sRetV apRetV getO
  cases e : g[i]? with
  | none => rfl
  | some o =>
    cases o with
    | none => rfl
    | some w => cases w <;> rfl
def ltB : Gm → Nat → Bool := fun g i => decide (i < g.length)
theorem ltB_z : ltB (o :: g) 0 = true := rfl
theorem ltB_s : ltB (o :: g) (i + 1) = ltB g i := by
  unfold ltB
  rw [List.length_cons]
  simp
theorem okSlot_s : okSlot (o :: g) (i + 1) = ltB g i := by
  unfold okSlot ltB
  rw [List.length_cons]
  simp
def apAsg : Option D → DGF → Gm → Option Out := fun x f g => x.bind fun d => (f d g).map .nx
theorem apAsg_some : apAsg (some d) tg g = (tg d g).map .nx := rfl
theorem sAsg_a : sAsg a tg g = apAsg (a g) tg g := rfl
theorem dName_ok (h : okSlot g i = true) : dName i d g = some (g.set i (some (.v d))) := if_pos h
theorem dgTup_a {m : DGFs} (h : ds.length = n) : dgTup n m (.tup ds) g = m ds g := if_pos h
def apG : Option Gm → (Gm → Option Gm) → Option Gm := fun x k => x.bind k
theorem apG_some {k : Gm → Option Gm} : apG (some g) k = k g := rfl
theorem dgCons_a {m : DGFs} : dgCons tg m (d :: ds) g = apG (tg d g) (m ds) := rfl
theorem dgNil_a : dgNil [] g = some g := rfl
def apAsgO : Option D → Nat → Gm → Option Out := fun x i g => x.bind fun d => if okSlot g i = true then some (.nx (g.set i (some (.o d)))) else none
theorem apAsgO_some (h : okSlot g i = true) : apAsgO (some d) i g = some (.nx (g.set i (some (.o d)))) := if_pos h
theorem sAsgO_a : sAsgO a i g = apAsgO (a g) i g := rfl
def apApp : Option D → Option D → Nat → Gm → Option Out := fun x y i g => x.bind fun d => match y with
  | some (.lst ds) => if ds.length < 100000 then some (.nx (g.set i (some (.o (.lst (ds ++ [d])))))) else none
  | _ => none
theorem apApp_some (h : ds.length < 100000) : apApp (some d) (some (.lst ds)) i g = some (.nx (g.set i (some (.o (.lst (ds ++ [d])))))) := if_pos h
theorem sApp_a : sApp i a g = apApp (a g) (getO g i) i g := by
  unfold sApp apApp getO
  congr 1
  funext d
  cases e : g[i]? with
  | none => rfl
  | some o =>
    cases o with
    | none => rfl
    | some w =>
      cases w with
      | v d => rfl
      | o d => cases d <;> rfl
def apSetI : Option D → Option D → Option D → Nat → Gm → Option Out := fun x z y i g => x.bind fun d => z.bind fun z => match z, y with
  | .int k, some (.lst ds) => (ixN ds.length k).map fun j => .nx (g.set i (some (.o (.lst (ds.set j d)))))
  | _, _ => none
theorem apSetI_some {j : Nat} (h : j < ds.length) : apSetI (some d) (some (.int (j : Int))) (some (.lst ds)) i g = some (.nx (g.set i (some (.o (.lst (ds.set j d)))))) := by
  unfold apSetI
  simp only [Option.bind_some]
  rw [Evl.ixN_nat h] <;> rfl
theorem sSetI_a : sSetI i b a g = apSetI (a g) (b g) (getO g i) i g := by
  unfold sSetI apSetI getO
  congr 1
  funext d
  congr 1
  funext z
  cases e : g[i]? with
  | none => cases z <;> rfl
  | some o =>
    cases o with
    | none => cases z <;> rfl
    | some w =>
      cases w with
      | v d => cases z <;> rfl
      | o d => cases d <;> cases z <;> rfl
def apFor : Option (List D) → DGF → SF → Gm → Option Out := fun x f s g => x.bind fun ds => loopD f s ds g
theorem apFor_some : apFor (some ds) tg s g = loopD tg s ds g := rfl
theorem sFor_a {it : DIF} : sFor it tg s g = apFor (it g) tg s g := rfl
theorem dItems_a : dItems a g = ap1 itemsD (a g) := rfl
def apR1 : Option (List D) → Option (List D) := fun x => x.bind fun xs => match xs with
  | [.int n] => if n ≤ 1000000 ∧ -1000000 ≤ n then some (rngL 0 n.toNat) else none
  | _ => none
theorem apR1_some {n : Nat} (h : n ≤ 1000000) : apR1 (some [.int (n : Int)]) = some (rngL 0 n) := if_pos (by omega)
theorem dRng1_a : dRng1 r g = apR1 (r g) := rfl
def apR2 : Option (List D) → Option (List D) := fun x => x.bind fun xs => match xs with
  | [.int i, .int j] => if (i ≤ 1000000 ∧ -1000000 ≤ i) ∧ j ≤ 1000000 ∧ -1000000 ≤ j then some (rngL i (j - i).toNat) else none
  | _ => none
theorem apR2_some {i j : Int} (h : (i ≤ 1000000 ∧ -1000000 ≤ i) ∧ j ≤ 1000000 ∧ -1000000 ≤ j) : apR2 (some [.int i, .int j]) = some (rngL i (j - i).toNat) := if_pos h
theorem dRng2_a : dRng2 r g = apR2 (r g) := rfl
def apEn : Option (List D) → Option (List D) := fun x => x.bind fun xs => match xs with
  | [.lst ds] => some (enumL 0 ds)
  | [.tup ds] => some (enumL 0 ds)
  | _ => none
theorem apEn_some : apEn (some [.lst ds]) = some (enumL 0 ds) := rfl
theorem apEn_tup : apEn (some [.tup ds]) = some (enumL 0 ds) := rfl
theorem dEnum_a : dEnum r g = apEn (r g) := rfl
/-! ### freezing -/
theorem sFrz_a {l : List Nat} : sFrz l s g = s (frzs g l) := rfl
def frzI : Gm → Nat → Gm := fun g i => match g[i]? with
  | some (some (.o d)) => g.set i (some (.v d))
  | _ => g
theorem frzs_nil : frzs g [] = g := rfl
theorem frzs_cons {l : List Nat} : frzs g (i :: l) = frzs (frz1 g i) l := rfl
theorem frzI_o : frzI (some (.o d) :: g) 0 = some (.v d) :: g := rfl
theorem frzI_v : frzI (some (.v d) :: g) 0 = some (.v d) :: g := rfl
theorem frzI_n : frzI (none :: g) 0 = none :: g := rfl
theorem frzI_s : frzI (o :: g) (i + 1) = o :: frzI g i := by
  unfold frzI
  rw [List.getElem?_cons_succ]
  cases e : g[i]? with
  | none => rfl
  | some p =>
    cases p with
    | none => rfl
    | some w => cases w <;> rfl
theorem frz1_s : frz1 (o :: g) (i + 1) = o :: frzI g i := by
  rw [← frzI_s]
  unfold frz1 frzI
  rw [if_neg (Nat.succ_ne_zero i)] <;> rfl
theorem frzAll_nil : frzAll [] = [] := rfl
theorem frzAll_o : frzAll (some (.o d) :: g) = some (.v d) :: frzAll g := rfl
theorem frzAll_v : frzAll (some (.v d) :: g) = some (.v d) :: frzAll g := rfl
theorem frzAll_n : frzAll (none :: g) = none :: frzAll g := rfl
theorem peekT_a : peekT t g = t (frzAll g) := rfl
def apPk : Option D → Option D := fun x => match x with
  | some d => if d.flat = true then some d else none
  | none => none
theorem apPk_int {j : Int} : apPk (some (.int j)) = some (.int j) := rfl
theorem apPk_bl {j : Bool} : apPk (some (.bl j)) = some (.bl j) := rfl
theorem apPk_str {j : Str} : apPk (some (.str j)) = some (.str j) := rfl
theorem apPk_non : apPk (some .non) = some .non := rfl
theorem peekF_a : peekF a g = apPk (a (frzAll g)) := rfl
/-! ### calls -/
def apCall (n : Nat) (gf : PF) : Option (List D) → Option D := fun x => x.bind fun ds => if ds.length = n then (gf ds).map Wd.d else none
theorem dCall_a {gf : PF} : dCall n gf r g = apCall n gf (r g) := rfl
def toO : Option Wd → Option D := fun x => match x with
  | some (.o d) => some d
  | _ => none
theorem toO_o : toO (some (.o d)) = some d := rfl
def apCallO (n : Nat) (gf : PF) : Option (List D) → Option D := fun x => x.bind fun ds => if ds.length = n then toO (gf ds) else none
theorem dCallO_a {gf : PF} : dCallO n gf r g = apCallO n gf (r g) := by
  unfold dCallO apCallO toO
  rfl
def apMake (C : Addr) (n : Nat) (gf : List D → Option (List (Str × D))) : Option (List D) → Option D := fun x => x.bind fun ds => if ds.length = n then (gf ds).map (.ins C) else none
theorem dMake_a {C : Addr} {gf : List D → Option (List (Str × D))} : dMake C n gf r g = apMake C n gf (r g) := rfl
theorem apMake_some {C : Addr} {gf : List D → Option (List (Str × D))} (h : ds.length = n) : apMake C n gf (some ds) = (gf ds).map (.ins C) := if_pos h
theorem Wd_v : Wd.d (.v d) = d := rfl
theorem Wd_o : Wd.d (.o d) = d := rfl
/-! ### comprehensions, slices -/
theorem dLc_eq {it : DIF} {tt : DTF} {te : DF} {vs : List Nat} {es : List D} (hf : free g vs = true) (hi : it g = some ds) (hz : ds.length ≤ 100000) (h : lcL tg tt te (wipeG g vs) ds = some es) : dLc it tg tt te vs g = some (.lst es) := by
  unfold dLc
  rw [if_pos hf, hi, Option.bind_some, if_pos hz, h] <;> rfl
theorem lcL_map {tt : DTF} {te : DF} (F : D → D) : ∀ {ds : List D}, (∀ d, d ∈ ds → ∃ g1, tg d g = some g1 ∧ tt g1 = some true ∧ te g1 = some (F d)) → lcL tg tt te g ds = some (ds.map F)
  | [], _ => rfl
  | d :: ds, h => by
    obtain ⟨g1, h1, h2, h3⟩ := h d List.mem_cons_self
    unfold lcL
    rw [h1, Option.bind_some, h2, Option.bind_some, if_pos rfl, h3, Option.bind_some, lcL_map F fun d hd => h d (List.mem_cons_of_mem _ hd)] <;> rfl
theorem lcL_filter {tt : DTF} {te : DF} (T : D → Bool) (F : D → D) : ∀ {ds : List D}, (∀ d, d ∈ ds → ∃ g1, tg d g = some g1 ∧ tt g1 = some (T d) ∧ (T d = true → te g1 = some (F d))) → lcL tg tt te g ds = some ((ds.filter T).map F)
  | [], _ => rfl
  | d :: ds, h => by
    obtain ⟨g1, h1, h2, h3⟩ := h d List.mem_cons_self
    have ih := lcL_filter T F (ds := ds) fun d hd => h d (List.mem_cons_of_mem _ hd)
    unfold lcL
    rw [h1, Option.bind_some, h2, Option.bind_some]
    cases e : T d with
    | true =>
      rw [if_pos rfl, h3 e, Option.bind_some, ih, List.filter_cons, if_pos e] <;> rfl
    | false =>
      rw [if_neg Bool.false_ne_true, ih, List.filter_cons, if_neg (by rw [e]; exact Bool.false_ne_true)]
def apSl : Option D → Option (Option Int) → Option (Option Int) → Option D := fun x l h => x.bind fun x => l.bind fun l => h.bind fun h => slD x l h
theorem dSl_a {lo hi : DOF} : dSl a lo hi g = apSl (a g) (lo g) (hi g) := rfl
theorem apSl_some {lo hi : Option Int} : apSl (some (.lst ds)) (some lo) (some hi) = some (.lst (cutL ds lo hi)) := rfl
theorem oNone_a : oNone g = some none := rfl
def apO : Option D → Option (Option Int) := fun x => x.bind fun x => match x with
  | .int i => some (some i)
  | _ => none
theorem oSome_a : oSome a g = apO (a g) := rfl
theorem apO_some {j : Int} : apO (some (.int j)) = some (some j) := rfl
/-! ### operators -/
variable {j k' : Int} {p p' : Str}
theorem add_ii : addD (.int j) (.int k') = some (.int (j + k')) := rfl
theorem add_ll {es : List D} (h : ds.length + es.length ≤ 100000) : addD (.lst ds) (.lst es) = some (.lst (ds ++ es)) := if_pos h
theorem sub_ii : subD (.int j) (.int k') = some (.int (j - k')) := rfl
theorem mul_ii (h : j.natAbs.log2 + k'.natAbs.log2 < 100000000) : mulD (.int j) (.int k') = some (.int (j * k')) := if_pos h
theorem log2_lt_of {m n : Nat} (h : m < 2 ^ n) (hn : 0 < n) : m.log2 < n := by
  by_cases e : m = 0
  · rw [e]; simpa using hn
  · exact (Nat.log2_lt e).mpr h
theorem mul_small (h : j.natAbs < 2 ^ 1000) (h' : k'.natAbs < 2 ^ 1000) : mulD (.int j) (.int k') = some (.int (j * k')) := mul_ii (by
  have h1 := log2_lt_of h (by decide)
  have h2 := log2_lt_of h' (by decide)
  omega)
theorem fdiv_ii (h : 0 < k') (h' : k'.natAbs < 2 ^ 8000) : fdivD (.int j) (.int k') = some (.int (j / k')) := if_pos ⟨h, by
  have := log2_lt_of h' (by decide)
  omega⟩
theorem mod_ii (h : 0 < k') : modD (.int j) (.int k') = some (.int (j % k')) := if_pos h
theorem lt_ii : ltD (.int j) (.int k') = some (.bl (decide (j < k'))) := rfl
theorem le_ii : leD (.int j) (.int k') = some (.bl (decide (j ≤ k'))) := rfl
theorem gt_ii : gtD (.int j) (.int k') = some (.bl (decide (k' < j))) := rfl
theorem ge_ii : geD (.int j) (.int k') = some (.bl (decide (k' ≤ j))) := rfl
theorem eq_ii : eqD (.int j) (.int k') = some (.bl (j == k')) := rfl
theorem ne_ii : neD (.int j) (.int k') = some (.bl (!(j == k'))) := rfl
theorem neg_i : negD (.int j) = some (.int (-j)) := rfl
theorem not_b : notD (.bl k) = some (.bl (!k)) := rfl
theorem bl_b : blD (.bl k) = some k := rfl
theorem tru_b : truD (.bl k) = some k := rfl
theorem tru_i : truD (.int j) = some (j != 0) := rfl
theorem tru_l : truD (.lst ds) = some (!ds.isEmpty) := rfl
theorem tru_t : truD (.tup ds) = some (!ds.isEmpty) := rfl
theorem tru_n : truD .non = some false := rfl
theorem len_l : lenD [.lst ds] = some (.int ds.length) := rfl
theorem len_t : lenD [.tup ds] = some (.int ds.length) := rfl
theorem len_scr {ns : List Int} : lenD [.scr ns] = some (.int ns.length) := rfl
theorem abs_i : absD [.int j] = some (.int (if j < 0 then -j else j)) := rfl
theorem int_i : intD [.int j] = some (.int j) := rfl
theorem list_l : listD [.lst ds] = some (.lst ds) := rfl
theorem list_t : listD [.tup ds] = some (.lst ds) := rfl
theorem tuple_l : tupleD [.lst ds] = some (.tup ds) := rfl
theorem tuple_t : tupleD [.tup ds] = some (.tup ds) := rfl
theorem min_ii : minD [.int j, .int k'] = some (.int (if k' < j then k' else j)) := rfl
theorem max_ii : maxD [.int j, .int k'] = some (.int (if k' > j then k' else j)) := rfl
theorem mkLst_some (h : ds.length ≤ 100000) : mkLst ds = some (.lst ds) := if_pos h
theorem mkTup_some (h : ds.length ≤ 100000) : mkTup ds = some (.tup ds) := if_pos h
theorem rev_l : revD (.lst ds) = some (.lst ds.reverse) := rfl
theorem items_l : itemsD (.lst ds) = some ds := rfl
theorem items_t : itemsD (.tup ds) = some ds := rfl
theorem ix_l {m : Nat} (h : ds[m]? = some d) : ixD (.lst ds) (.int (m : Int)) = some d := atI_nat h
theorem ix_t {m : Nat} (h : ds[m]? = some d) : ixD (.tup ds) (.int (m : Int)) = some d := atI_nat h
theorem ix_scr {ns : List Int} {m : Nat} (h : ns[m]? = some j) : ixD (.scr ns) (.int (m : Int)) = some (.int j) := by
  show (atI ns (m : Int)).map D.int = _
  rw [atI_nat h] <;> rfl
theorem iL_get {ns : List Int} {m : Nat} : (iL ns)[m]? = (ns[m]?).map D.int := by unfold iL; rw [List.getElem?_map]
theorem iL_len {ns : List Int} : (iL ns).length = ns.length := by unfold iL; rw [List.length_map]
theorem iL_app {ns ms : List Int} : iL ns ++ iL ms = iL (ns ++ ms) := by unfold iL; rw [List.map_append]
theorem iL_one : [D.int j] = iL [j] := rfl
theorem rng_get {lo : Int} {n i : Nat} (h : (rngL lo n)[i]? = some d) : i < n ∧ d = .int (lo + i) := by
  unfold rngL at h
  rw [List.getElem?_map] at h
  have hi : i < n := by
    cases z : (List.range n)[i]? with
    | none => rw [z] at h; cases h
    | some j => have := (List.getElem?_eq_some_iff.mp z).1; rw [List.length_range] at this; exact this
  rw [List.getElem?_range hi] at h
  cases h
  exact ⟨hi, rfl⟩
theorem rng_len {lo : Int} {n : Nat} : (rngL lo n).length = n := by unfold rngL; rw [List.length_map, List.length_range]
theorem rng_mem {lo : Int} {n : Nat} (h : d ∈ rngL lo n) : ∃ i, i < n ∧ d = .int (lo + (i : Nat)) := by
  obtain ⟨i, hi⟩ := List.mem_iff_getElem?.mp h
  exact ⟨i, rng_get hi⟩
def outW : Option Out → Option Wd := fun x => match x with
  | some (.rt w) => some w
  | some (.nx _) => some (.v .non)
  | _ => none
theorem run_a {m : Nat} {t : SF} {ds : List D} : runG m t ds = outW (t (ds.map (fun d => some (.v d)) ++ List.replicate m none)) := rfl
theorem outW_rt {w : Wd} : outW (some (.rt w)) = some w := rfl
theorem outW_nx : outW (some (.nx g)) = some (.v .non) := rfl
end
end Zk
end

section
set_option Elab.async false
set_option linter.all false
set_option maxRecDepth 100000
set_option autoImplicit false
set_option maxHeartbeats 2000000
/-! Sets of ints; dicts whose keys are ints or texts. -/
namespace Zn
open PySem L2 Zk
open Evl (Ex)
variable {K : PySem.W.Frag}
/-! ### dicts -/
def getK (kvs : List (Key × D)) (k : Key) : Option D := (kvs.find? fun kv => decide (kv.1 = k)).map (·.2)
def setK (kvs : List (Key × D)) (k : Key) (d : D) : List (Key × D) :=
  if (kvs.any fun kv => decide (kv.1 = k)) = true then kvs.map (fun kv => if kv.1 = k then (kv.1, d) else kv) else kvs ++ [(k, d)]
def RpD (K : PySem.W.Frag) (O : Addr → Prop) (H : Hp) (xs : List (Key × V)) (kvs : List (Key × D)) : Prop := xs.map (·.1) = kvs.map (·.1) ∧ RpA K O H (xs.map (·.2)) (kvs.map (·.2))
theorem RpD.nil {O : Addr → Prop} {H : Hp} : RpD K O H [] [] := ⟨rfl, .nil⟩
theorem RpD.inv {O : Addr → Prop} {H : Hp} {x : Key × V} {xs : List (Key × V)} {kvs : List (Key × D)} (r : RpD K O H (x :: xs) kvs) : ∃ d kvs', kvs = (x.1, d) :: kvs' ∧ Rp K O H x.2 d ∧ RpD K O H xs kvs' := by
  obtain ⟨e, r⟩ := r
  cases kvs with
  | nil => cases e
  | cons kv kvs =>
    rw [List.map_cons, List.map_cons] at e r
    have e1 := (List.cons.inj e).1
    cases r with
    | cons a b => exact ⟨kv.2, kvs, by rw [e1], a, (List.cons.inj e).2, b⟩
theorem RpD.get {O : Addr → Prop} {H : Hp} : ∀ {xs : List (Key × V)} {kvs : List (Key × D)} (k : Key), RpD K O H xs kvs →
    (getK kvs k = none ∧ valV xs k = none) ∨ ∃ d v, getK kvs k = some d ∧ valV xs k = some v ∧ Rp K O H v d
  | [], kvs, k, r => by
    obtain ⟨e, _⟩ := r
    cases kvs with
    | nil => exact .inl ⟨rfl, rfl⟩
    | cons a b => cases e
  | x :: xs, kvs, k, r => by
    obtain ⟨d, kvs', rfl, h1, h2⟩ := r.inv
    by_cases hk : x.1 = k
    · refine .inr ⟨d, x.2, ?_, valV_pos hk, h1⟩
      unfold getK
      rw [List.find?_cons, decide_eq_true hk]
      rfl
    · have ih := RpD.get k h2
      rw [valV_neg hk]
      have e : getK ((x.1, d) :: kvs') k = getK kvs' k := by
        unfold getK
        rw [List.find?_cons, decide_eq_false hk]
      rw [e]
      exact ih
theorem RpD.set {O : Addr → Prop} {H : Hp} {xs : List (Key × V)} {kvs : List (Key × D)} (k : Key) {v : V} {d : D} (r : RpD K O H xs kvs) (hv : Rp K O H v d) : RpD K O H (putK xs k v) (setK kvs k d) := by
  have ha : (xs.any fun kv => decide (kv.1 = k)) = (kvs.any fun kv => decide (kv.1 = k)) := by
    have e1 : ∀ l : List (Key × V), (l.any fun kv => decide (kv.1 = k)) = ((l.map (·.1)).any fun z => decide (z = k)) := fun l => by rw [List.any_map]; rfl
    have e2 : ∀ l : List (Key × D), (l.any fun kv => decide (kv.1 = k)) = ((l.map (·.1)).any fun z => decide (z = k)) := fun l => by rw [List.any_map]; rfl
    rw [e1, e2, r.1]
  unfold putK setK
  rw [ha]
  split
  · have go : ∀ (xs : List (Key × V)) (kvs : List (Key × D)), RpD K O H xs kvs → RpD K O H (xs.map fun kv => if kv.1 = k then (kv.1, v) else kv) (kvs.map fun kv => if kv.1 = k then (kv.1, d) else kv) := by
      intro xs
      induction xs with
      | nil =>
        intro kvs r
        cases kvs with
        | nil => exact .nil
        | cons a b => cases r.1
      | cons x xs ih =>
        intro kvs r
        obtain ⟨d', kvs', rfl, h1, h2⟩ := r.inv
        have ih := ih kvs' h2
        rw [List.map_cons, List.map_cons]
        by_cases hk : x.1 = k
        · rw [if_pos hk, if_pos hk]
          exact ⟨by rw [List.map_cons, List.map_cons, ih.1], .cons hv ih.2⟩
        · rw [if_neg hk, if_neg hk]
          exact ⟨by rw [List.map_cons, List.map_cons, ih.1], .cons h1 ih.2⟩
    exact go xs kvs r
  · exact ⟨by rw [List.map_append, List.map_append, r.1]; rfl, by rw [List.map_append, List.map_append]; exact r.2.app (.one hv)⟩
theorem RpD.kp {O O' : Addr → Prop} {H H' : Hp} (k : Kp O H O' H') {xs : List (Key × V)} {kvs : List (Key × D)} (r : RpD K O H xs kvs) : RpD K O' H' xs kvs := ⟨r.1, r.2.kp k⟩
theorem RpD.len {O : Addr → Prop} {H : Hp} {xs : List (Key × V)} {kvs : List (Key × D)} (r : RpD K O H xs kvs) : xs.length = kvs.length := by
  have := congrArg List.length r.1
  rw [List.length_map, List.length_map] at this
  exact this
section
variable {tk tx tv : TE} {k x a : DF} {i : Nat}
end
/-! ### sets of ints -/
section
variable {w : World} {tk : TE} {k : DF} {i : Nat}
end
/-! ### steps -/
section
variable {g : Gm} {d e : D} {i : Nat} {kvs : List (Key × D)} {o : Option Wd} {a k : DF} {j : Int} {w : World} {ns : List Int}
end
end Zn
end

section
set_option Elab.async false
set_option linter.all false
set_option maxRecDepth 100000
set_option autoImplicit false
set_option maxHeartbeats 4000000
/-! Errors with a field: raised in loops and behind calls, caught, their field read. -/
namespace Zr
open PyProof.Rows hiding St
open PySem PySem.Spec L2 Zk
open Evl (Ex)
/-- what is raised: the class, its fields; the slots as they stand then -/
abbrev XV : Type := Addr × List (Str × D)
abbrev XF : Type := Gm → Option (XV × Gm)
section
variable {K : PySem.W.Frag} {W : WX} {ts tu : TS} {x y : XF} {t : SF} {tt : TT} {c : DTF}
end
/-! ### raise C(e): C keeps e in its one field -/
section
variable {P : Program} {w : World} {K : PySem.W.Frag} {mg : Str → Option Value} {base : Heap}
end
section
variable {K : PySem.W.Frag} {W : WX} {te : TE} {a : DF} {C : Addr} {fld : Str}
end
/-! ### a def that raises -/
section
variable {P : Program} {w : World} {K : PySem.W.Frag} {mg : Str → Option Value} {base : Heap}
end
/-! ### expressions that raise -/
section
variable {K : PySem.W.Frag} {W : WX} {ta tb : TA} {a b : DAF} {te : TE} {x : XF} {d : DF}
end
/-! ### in the except suite: slot i holds the error at a, its dict at dd -/
section
variable {K : PySem.W.Frag} {i : Nat} {a dd D : Addr} {fld : Str}
end
/-! ### try -/
section
variable {K : PySem.W.Frag} {i : Nat} {c : Value} {x : XF} {s : SF} {hd : Addr → Addr → SF} {tb : WX → TS} {tsD : Addr → Addr → TS} {Wout : WX} {D : Addr} {g : Gm}
end
/-! ### list(range(i, j)) -/
section
variable {K : PySem.W.Frag} {ta tb : TE} {a b : DF}
end
end Zr
end

section
set_option Elab.async false
set_option linter.all false
set_option maxRecDepth 100000
set_option autoImplicit false
set_option maxHeartbeats 2000000
/-! A def that hands back what it was handed, or a new list. -/
namespace Zb
open PySem L2 Zk
open Evl (Ex)
variable {K : PySem.W.Frag}
section
variable {gf : PF} {i : Nat} {a b : DF} {g : Gm} {x y : D} {dl dl' : List D}
end
/-! ### x or y, values -/
def dOrT (a b : DF) : DF := fun g => (a g).bind fun x => (truD x).bind fun k => if k = true then some x else b g
end Zb
end

section
set_option Elab.async false
set_option linter.all false
set_option maxRecDepth 100000
set_option autoImplicit false
set_option maxHeartbeats 2000000
/-! Set comprehensions of pairs over two clauses, sorted. -/
namespace Zt
open PySem PySem.Spec PyProof.Rows L2 Zk
open Evl (Ex)

section
variable {prog : Program} {w : World} {A : Around} {R : Result → Shared → Prop} {s : Shared}
end
section
variable {X : Cx}
end

section
variable {X : Cx}
/-! ### two clauses -/
end
/-! ### on data -/
section
variable {K : PySem.W.Frag}
abbrev Pr := Int × Int
def dd : List Pr → List Pr
  | [] => []
  | p :: ps => if p ∈ ps then dd ps else p :: dd ps
theorem mem_dd {q : Pr} : ∀ {ps : List Pr}, q ∈ dd ps ↔ q ∈ ps
  | [] => Iff.rfl
  | p :: ps => by
    unfold dd
    have ih := mem_dd (q := q) (ps := ps)
    split
    · rename_i hp
      rw [ih, List.mem_cons]
      exact ⟨.inr, fun z => z.elim (fun e => e ▸ hp) id⟩
    · rw [List.mem_cons, List.mem_cons, ih]
theorem nodup_sub {α : Type} [DecidableEq α] : ∀ {l1 l2 : List α}, l1.Nodup → (∀ x ∈ l1, x ∈ l2) → l1.length ≤ l2.length
  | [], _, _, _ => Nat.zero_le _
  | a :: l1, l2, h, hs => by
    obtain ⟨h1, h2⟩ := List.nodup_cons.mp h
    have ih := nodup_sub (l2 := l2.erase a) h2 fun x hx => (List.mem_erase_of_ne fun e => h1 (by rw [← e]; exact hx)).mpr (hs x (List.mem_cons_of_mem _ hx))
    have ha := hs a List.mem_cons_self
    rw [List.length_erase_of_mem ha] at ih
    have := List.length_pos_of_mem ha
    rw [List.length_cons]
    omega
def lp (q : Pr) : List Int := [q.1, q.2]
/-- the set at D holds just these pairs -/
structure SetP (P : Program) (w : World) (O : Addr → Prop) (Dl : Addr) (H : Hp) (ps : List Pr) (L : List (Addr × List Int)) : Prop where
  at_ : H Dl = some (SetTO P w Dl L)
  tup : ∀ p ∈ L, ∃ q ∈ ps, p.2 = lp q ∧ ¬ O p.1 ∧ H p.1 = some (.tup [V.int q.1, V.int q.2])
  all : ∀ q ∈ ps, lp q ∈ L.map (·.2)
  nd : (L.map (·.2)).Nodup
theorem SetP.len {P : Program} {w : World} {O : Addr → Prop} {Dl : Addr} {H : Hp} {ps qs : List Pr} {L : List (Addr × List Int)} (h : SetP P w O Dl H ps L) (hs : ∀ q ∈ ps, q ∈ qs) : L.length ≤ (dd qs).length := by
  have e : L.length = (L.map (·.2)).length := by rw [List.length_map]
  have e2 : (dd qs).length = ((dd qs).map lp).length := by rw [List.length_map]
  rw [e, e2]
  refine nodup_sub h.nd fun x hx => ?_
  obtain ⟨p, hp, e⟩ := List.mem_map.mp hx
  obtain ⟨q, hq, e3, _⟩ := h.tup p hp
  rw [← e, e3]
  exact List.mem_map.mpr ⟨q, mem_dd.mpr (hs q hq), rfl⟩
def inB (q : Pr) : Prop := 0 ≤ q.1 ∧ q.1 < 64 ∧ 0 ≤ q.2 ∧ q.2 < 64
instance (q : Pr) : Decidable (inB q) := by unfold inB; exact inferInstance
theorem SetP.put {P : Program} {w : World} {O : Addr → Prop} {Dl t : Addr} {H : Hp} {ps : List Pr} {q : Pr} {L L' : List (Addr × List Int)} (h : SetP P w O Dl H ps L) (hO : O Dl) (nt : ¬ O t) (ht : H t = some (.tup [V.int q.1, V.int q.2]))
    (c1 : lp q ∈ L.map (·.2) → L' = L) (c2 : lp q ∉ L.map (·.2) → L'.Perm ((t, lp q) :: L)) : SetP P w O Dl (upd H Dl (SetTO P w Dl L')) (ps ++ [q]) L' := by
  have keep : ∀ a, ¬ O a → upd H Dl (SetTO P w Dl L') a = H a := fun a n => upd_ne fun z => n (by rw [z]; exact hO)
  have old : ∀ p ∈ L, ∃ r ∈ ps ++ [q], p.2 = lp r ∧ ¬ O p.1 ∧ upd H Dl (SetTO P w Dl L') p.1 = some (.tup [V.int r.1, V.int r.2]) := fun p hp => by
    obtain ⟨r, hr, e, n, z⟩ := h.tup p hp
    exact ⟨r, List.mem_append_left _ hr, e, n, by rw [keep _ n]; exact z⟩
  by_cases hm : lp q ∈ L.map (·.2)
  · have e := c1 hm
    subst e
    refine ⟨upd_same, old, fun r hr => ?_, h.nd⟩
    rcases List.mem_append.mp hr with hr | hr
    · exact h.all r hr
    · rw [List.mem_singleton.mp hr]; exact hm
  · have pm := c2 hm
    have pm2 := pm.map (·.2)
    refine ⟨upd_same, fun p hp => ?_, fun r hr => ?_, ?_⟩
    · rcases List.mem_cons.mp (pm.mem_iff.mp hp) with z | z
      · rw [z]
        exact ⟨q, List.mem_append_right _ List.mem_cons_self, rfl, nt, by rw [keep _ nt]; exact ht⟩
      · exact old p z
    · refine pm2.mem_iff.mpr ?_
      rw [List.map_cons]
      rcases List.mem_append.mp hr with hr | hr
      · exact List.mem_cons_of_mem _ (h.all r hr)
      · rw [List.mem_singleton.mp hr]; exact List.mem_cons_self
    · refine pm2.nodup_iff.mpr ?_
      rw [List.map_cons]
      exact List.nodup_cons.mpr ⟨hm, h.nd⟩
theorem SetP.ex {P : Program} {w : World} {O : Addr → Prop} {Dl : Addr} {H H2 : Hp} {ps : List Pr} {L : List (Addr × List Int)} (h : SetP P w O Dl H ps L) (e : Ex H H2) : SetP P w O Dl H2 ps L :=
  ⟨e _ _ h.at_, fun p hp => let ⟨q, a, b, c, d⟩ := h.tup p hp; ⟨q, a, b, c, e _ _ d⟩, h.all, h.nd⟩
end
end Zt
end

section
set_option Elab.async false
set_option linter.all false
set_option maxRecDepth 100000
set_option autoImplicit false
set_option maxHeartbeats 2000000
/-! Sets of tuples of ints: up to 76 of them. -/
namespace Zst
open PySem PySem.Spec PyProof.Rows L2 Zk
structure SR (P : Program) (w : World) (h : Heap) (a : Addr) (L : List (Addr × List Int)) (es : Array (Int × Value)) (ep : Nat) (t : SetTable) : Prop where
  ob : ∃ o, h.get? a = some o ∧ o.ExactSet ∧ o.data = Data.set es ep t
  rows : es.toList = rowsOf P w L
  tab : TabOk t (L.map fun p => thash P w p.2)
  nd : (L.map (·.2)).Nodup
  tup : ∀ p ∈ L, L2.IsT P w h p.2 p.1
  plain : t.plain = true
  led : w.params.followText "set-order" = true ∨ t.led = true
  room : L.length * 5 < t.mask * 3
section
variable {P : Program} {w : World} {h h' : Heap} {a : Addr} {L : List (Addr × List Int)} {es : Array (Int × Value)} {ep : Nat} {t : SetTable}
theorem SR.size (R : SR P w h a L es ep t) : es.size = L.length := by
  have e := congrArg List.length R.rows
  rw [Array.length_toList] at e
  rw [e]
  exact List.length_map ..
theorem SR.keep (R : SR P w h a L es ep t) (k : ∀ o, h.get? a = some o → h'.get? a = some o) (ht : ∀ p ∈ L, L2.IsT P w h' p.2 p.1) : SR P w h' a L es ep t :=
  ⟨let ⟨o, e, x, d⟩ := R.ob; ⟨o, k o e, x, d⟩, R.rows, R.tab, R.nd, ht, R.plain, R.led, R.room⟩
end
section
variable {P : Program} {w : World} {A : Around} {E : Value → Shared → Prop} {s : Shared} {a : Addr} {L : List (Addr × List Int)} {es : Array (Int × Value)} {ep : Nat} {t : SetTable}
abbrev p0 (t : SetTable) (h : Int) : SetTable.Probe := runAt t.mask (SetTable.bits h % (t.mask + 1)) (SetTable.bits h)
end
end Zst
end

section
set_option Elab.async false
set_option linter.all false
set_option maxRecDepth 100000
set_option autoImplicit false
set_option maxHeartbeats 2000000
/-! Set comprehensions of up to 76 pairs over two clauses, sorted. -/
namespace Zsu
open PySem PySem.Spec PyProof.Rows L2 Zk Zt Zst
open Evl (Ex)
def SP0 (P : Program) (w : World) (h : Heap) (a : Addr) (L : List (Addr × List Int)) : Prop := ∃ es ep t, (∃ o, h.get? a = some o ∧ o.ExactSet ∧ o.data = Data.set es ep t) ∧ es.toList = rowsOf P w L ∧ TabOk t (L.map fun p => thash P w p.2) ∧ (L.map (·.2)).Nodup ∧ t.plain = true ∧
  (w.params.followText "set-order" = true ∨ t.led = true) ∧ L.length * 5 < t.mask * 3
def SetPO (P : Program) (w : World) (a : Addr) (L : List (Addr × List Int)) : HO := HO.ext fun h => SP0 P w h a L
theorem SP0.full {P : Program} {w : World} {h : Heap} {a : Addr} {L : List (Addr × List Int)} (R : SP0 P w h a L) (ht : ∀ p ∈ L, L2.IsT P w h p.2 p.1) : ∃ es ep t, SR P w h a L es ep t := by
  obtain ⟨es, ep, t, h1, h2, h3, h4, h5, h6, h7⟩ := R
  exact ⟨es, ep, t, h1, h2, h3, h4, ht, h5, h6, h7⟩
theorem _root_.Zst.SR.t0 {P : Program} {w : World} {h : Heap} {a : Addr} {L : List (Addr × List Int)} {es : Array (Int × Value)} {ep : Nat} {t : SetTable} (R : SR P w h a L es ep t) : SP0 P w h a L := ⟨es, ep, t, R.ob, R.rows, R.tab, R.nd, R.plain, R.led, R.room⟩
section
variable {X : Cx}
end
section
variable {X : Cx}
end
section
variable {X : Cx}
end
section
variable {K : PySem.W.Frag}
/-- the set at D holds just these pairs -/
structure SetQ (P : Program) (w : World) (O : Addr → Prop) (Dl : Addr) (H : Hp) (ps : List Pr) (L : List (Addr × List Int)) : Prop where
  at_ : H Dl = some (SetPO P w Dl L)
  tup : ∀ p ∈ L, ∃ q ∈ ps, p.2 = lp q ∧ ¬ O p.1 ∧ H p.1 = some (.tup [V.int q.1, V.int q.2])
  all : ∀ q ∈ ps, lp q ∈ L.map (·.2)
  nd : (L.map (·.2)).Nodup
theorem SetQ.len {P : Program} {w : World} {O : Addr → Prop} {Dl : Addr} {H : Hp} {ps qs : List Pr} {L : List (Addr × List Int)} (h : SetQ P w O Dl H ps L) (hs : ∀ q ∈ ps, q ∈ qs) : L.length ≤ (dd qs).length := by
  have e : L.length = (L.map (·.2)).length := by rw [List.length_map]
  have e2 : (dd qs).length = ((dd qs).map lp).length := by rw [List.length_map]
  rw [e, e2]
  refine nodup_sub h.nd fun x hx => ?_
  obtain ⟨p, hp, e⟩ := List.mem_map.mp hx
  obtain ⟨q, hq, e3, _⟩ := h.tup p hp
  rw [← e, e3]
  exact List.mem_map.mpr ⟨q, mem_dd.mpr (hs q hq), rfl⟩
theorem SetQ.put {P : Program} {w : World} {O : Addr → Prop} {Dl t : Addr} {H : Hp} {ps : List Pr} {q : Pr} {L L' : List (Addr × List Int)} (h : SetQ P w O Dl H ps L) (hO : O Dl) (nt : ¬ O t) (ht : H t = some (.tup [V.int q.1, V.int q.2]))
    (c1 : lp q ∈ L.map (·.2) → L' = L) (c2 : lp q ∉ L.map (·.2) → L'.Perm ((t, lp q) :: L)) : SetQ P w O Dl (upd H Dl (SetPO P w Dl L')) (ps ++ [q]) L' := by
  have keep : ∀ a, ¬ O a → upd H Dl (SetPO P w Dl L') a = H a := fun a n => upd_ne fun z => n (by rw [z]; exact hO)
  have old : ∀ p ∈ L, ∃ r ∈ ps ++ [q], p.2 = lp r ∧ ¬ O p.1 ∧ upd H Dl (SetPO P w Dl L') p.1 = some (.tup [V.int r.1, V.int r.2]) := fun p hp => by
    obtain ⟨r, hr, e, n, z⟩ := h.tup p hp
    exact ⟨r, List.mem_append_left _ hr, e, n, by rw [keep _ n]; exact z⟩
  by_cases hm : lp q ∈ L.map (·.2)
  · have e := c1 hm
    subst e
    refine ⟨upd_same, old, fun r hr => ?_, h.nd⟩
    rcases List.mem_append.mp hr with hr | hr
    · exact h.all r hr
    · rw [List.mem_singleton.mp hr]; exact hm
  · have pm := c2 hm
    have pm2 := pm.map (·.2)
    refine ⟨upd_same, fun p hp => ?_, fun r hr => ?_, ?_⟩
    · rcases List.mem_cons.mp (pm.mem_iff.mp hp) with z | z
      · rw [z]
        exact ⟨q, List.mem_append_right _ List.mem_cons_self, rfl, nt, by rw [keep _ nt]; exact ht⟩
      · exact old p z
    · refine pm2.mem_iff.mpr ?_
      rw [List.map_cons]
      rcases List.mem_append.mp hr with hr | hr
      · exact List.mem_cons_of_mem _ (h.all r hr)
      · rw [List.mem_singleton.mp hr]; exact List.mem_cons_self
    · refine pm2.nodup_iff.mpr ?_
      rw [List.map_cons]
      exact List.nodup_cons.mpr ⟨hm, h.nd⟩
theorem SetQ.ex {P : Program} {w : World} {O : Addr → Prop} {Dl : Addr} {H H2 : Hp} {ps : List Pr} {L : List (Addr × List Int)} (h : SetQ P w O Dl H ps L) (e : Ex H H2) : SetQ P w O Dl H2 ps L :=
  ⟨e _ _ h.at_, fun p hp => let ⟨q, a, b, c, d⟩ := h.tup p hp; ⟨q, a, b, c, e _ _ d⟩, h.all, h.nd⟩
end
end Zsu
end

section
set_option Elab.async false
set_option linter.all false
set_option autoImplicit false
set_option maxRecDepth 100000
set_option maxHeartbeats 2000000
/-! sorted by a key whose calls may change the state: G ks s', an invariant of one's own, stands after the keys ks are told. -/
namespace Zsk
open PySem PySem.W PySem.Calls PyProof.Rows
section
variable {prog : Program} {w : World} {A : Around} {E : Value → Shared → Prop} {s : Shared} {a kS : Addr} {b : Bool} {vs : List Value} {e1 : Nat} {P : PySem.Fin → Shared → Prop}
/-- what the keys told are worth at the end, and how it goes on -/
def KeysEnd (A : Around) (a kS : Addr) (b : Bool) (vs : List Value) (P : PySem.Fin → Shared → Prop) (ks : List Value) (s' : Shared) : Prop :=
  ∃ kz : List PyData, EachIs (fun v k => ∃ as, Reads s'.heap v k as) ks kz ∧ AllAlike kz ∧ Sortable kz ∧ (∀ d, d ∈ kz → A.units + d.depth < cLine) ∧
    ∀ (h' : Heap) (tk : Nat) (out : List Value) (c : Nat), (∀ b o, b ≠ a → b ≠ kS → s'.heap.get? b = some o → h'.get? b = some o) → h'.get? a = some (seqObj "list" (List.toArray out) c) → KeyedOut b kz vs out →
      P (.done (.ret .none)) { s' with heap := h', toks := tk }
/-- one key is told: the store of keys and the list stay, and G goes on over the store's change -/
def KeyTurn (prog : Program) (w : World) (A : Around) (a kS : Addr) (f : Value) (vs : List Value) (e1 : Nat) (G : List Value → Shared → Prop) : Prop :=
  ∀ (v : Value) (ks : List Value) (s' : Shared) (kA : Array Value) (e : Nat), vs[ks.length]? = some v → G ks s' → s'.heap.get? kS = some (seqObj "list" kA e) → s'.heap.get? a = some (seqObj "list" #[] e1) →
    wpAny (model prog w) A (call f [v]) (fun k s'' => s''.heap.get? kS = some (seqObj "list" kA e) ∧ s''.heap.get? a = some (seqObj "list" #[] e1) ∧ ∀ h', Heap.SameBut kS s''.heap h' → G (ks ++ [k]) { s'' with heap := h' }) (fun _ _ => False) s'
theorem keyG_rest {f : Value} {G : List Value → Shared → Prop} (nk : s.heap.get? kS = some (seqObj "list" #[] 0)) (na : s.heap.get? a = some (seqObj "list" #[] e1)) (hka : kS ≠ a) (hZ : vs.length ≤ sizeLine)
    (g0 : G [] s) (turn : KeyTurn prog w A a kS f vs e1 G) (fin : ∀ ks s', ks.length = vs.length → G ks s' → KeysEnd A a kS b vs P ks s') :
    wpAny (model prog w) A (ksk_rest a f b vs.toArray e1 (.ref kS)) P E s := by
  unfold ksk_rest
  refine wpAny_bind (wpAny_rule ?_)
  first
    | rw [List.forIn_toArray]
    | (rw [← Array.forIn_toList]; simp only [List.toList_toArray])
    | rw [← Array.forIn_toList]
  refine wpAny_bind (ksk_fold (fun i s' => ∃ kA e, kA.size = i ∧ G kA.toList s' ∧ s'.heap.get? kS = some (seqObj "list" kA e) ∧ s'.heap.get? a = some (seqObj "list" #[] e1)) vs 0 s
    ⟨#[], 0, rfl, g0, nk, na⟩ ?step ?done)
  case step =>
    rintro j x s' hx ⟨kA, e, hi, hg, nk', na'⟩
    simp only [Nat.zero_add] at hi ⊢
    have hj : j < vs.length := (List.getElem?_eq_some_iff.mp hx).1
    refine wpAny_bind (wpAny_attempt (wpAny_mono (turn x kA.toList s' kA e (by rw [Array.length_toList, hi]; exact hx) hg nk' na') (fun v s'' he => ?_) fun _ _ hF => hF.elim))
    obtain ⟨nk2, na2, hG⟩ := he
    try dsimp only
    have s1 := Heap.SameBut.update s''.heap kS (Obj.mapSeq (·.push v))
    obtain ⟨c2, hc2⟩ : ∃ c2, (s''.heap.update kS (Obj.mapSeq (·.push v))).get? kS = some (seqObj "list" (kA.push v) c2) := ⟨_, get?_update_seq nk2 (·.push v)⟩
    have ea : (kA.push v).toList = kA.toList ++ [v] := by simp
    have hz : kA.size ≤ vs.length := by omega
    refine wpAny_bind (listUpdate_at nk2 rfl ?_ (Nat.le_trans hz hZ) (Nat.le_trans (Nat.le_of_eq (Array.size_push ..)) (Nat.succ_le_succ (Nat.le_trans hz hZ))))
    refine wpAny_pure ⟨rfl, kA.push v, c2, by rw [Array.size_push, hi], ?_, hc2, (s1.2 a hka.symm).trans na2⟩
    rw [ea]
    exact hG _ s1
  case done =>
    rintro s' ⟨kA, e, hi, hg, nk', na'⟩
    simp only [Nat.zero_add] at hi
    obtain ⟨kz, hk, hal, hsk, hu, hend⟩ := fin kA.toList s' (by rw [Array.length_toList, hi]) hg
    try dsimp only
    refine wpAny_bind (listItems_at nk' rfl ?_)
    refine keyH_end (κ := dataKind s'.heap kz) (h₁ := hideAll s'.heap [kS]) (fun b o _ q => of_hideAll _ q) (hideAll_none _ (List.mem_singleton.mpr rfl)) nk' na' hka (SortsAt.data hk hal hsk hu) hi hZ fun h3 tk3 c k3 n3 => ?_
    exact hend h3 tk3 _ c (fun b o h1 h2 q => k3 b o h1 (hideAll_get _ q (fun z => h2 (List.mem_singleton.mp z)))) n3 ⟨s'.heap, kA.toList, hal, rfl, hk⟩
/-- xs.sort(key=f): the list at a -/
theorem keyG_tree {f : Value} {n : Nat} (ho : s.heap.get? a = some (seqObj "list" vs.toArray n)) (hZ : vs.length ≤ sizeLine)
    (go : ∀ (kS e1 : Nat) (h1 : Heap), KeepsBut a s.heap h1 → s.heap.get? kS = none → s.heap.objs.size ≤ kS → kS ≠ a → h1.get? kS = some (seqObj "list" #[] 0) → h1.get? a = some (seqObj "list" #[] e1) →
      ∃ G : List Value → Shared → Prop, G [] { s with heap := h1 } ∧ KeyTurn prog w A a kS f vs e1 G ∧ ∀ ks s', ks.length = vs.length → G ks s' → KeysEnd A a kS b vs P ks s') :
    wpAny (model prog w) A (ksk_tree a f b) P E s := by
  have ha : a < s.heap.objs.size := Heap.lt_size ho
  obtain ⟨e1, ho1⟩ : ∃ e1, (s.heap.update a (Obj.mapSeq fun _ => (#[] : Array Value))).get? a = some (seqObj "list" #[] e1) := ⟨_, get?_update_seq ho fun _ => #[]⟩
  have hkS : ((s.heap.update a (Obj.mapSeq fun _ => (#[] : Array Value))).push (seqObj "tuple" vs.toArray 0)).objs.size = s.heap.objs.size + 1 := by rw [size_push', Heap.size_update]
  unfold ksk_tree
  refine wpAny_bind (listItems_at ho rfl ?_)
  refine wpAny_bind (listUpdate_at ho rfl ?_ (by rw [List.size_toArray]; exact hZ) (Nat.zero_le _))
  refine wpAny_bind (seqEpoch_at ho1 rfl ?_)
  refine wpAny_bind (wpAny_newTuple ?_ (by show vs.length ≤ _; exact hZ))
  refine wpAny_bind (wpAny_newList ?_ (Nat.zero_le _))
  refine wpAny_holding ?_
  have kp : KeepsBut a s.heap (sortingHeap s.heap a vs) := fun b o hb q => sortingHeap_old hb q
  have hn : s.heap.get? ((s.heap.update a (Obj.mapSeq fun _ => (#[] : Array Value))).push (seqObj "tuple" vs.toArray 0)).objs.size = none := Heap.get?_none_of_le (by rw [hkS]; exact Nat.le_succ _)
  have hne : ((s.heap.update a (Obj.mapSeq fun _ => (#[] : Array Value))).push (seqObj "tuple" vs.toArray 0)).objs.size ≠ a := by rw [hkS]; exact Nat.ne_of_gt (Nat.lt_succ_of_lt ha)
  have nk : (sortingHeap s.heap a vs).get? ((s.heap.update a (Obj.mapSeq fun _ => (#[] : Array Value))).push (seqObj "tuple" vs.toArray 0)).objs.size = some (seqObj "list" #[] 0) := Heap.get?_push_size _ rfl
  have na : (sortingHeap s.heap a vs).get? a = some (seqObj "list" #[] e1) := Heap.get?_push_of_some _ (Heap.get?_push_of_some _ ho1)
  obtain ⟨G, g0, turn, fin⟩ := go _ e1 _ kp hn (by rw [hkS]; exact Nat.le_succ _) hne nk na
  exact keyG_rest (s := { s with heap := sortingHeap s.heap a vs }) nk na hne hZ g0 turn fin
end
/-! ### sorted(range(..), key=f) -/
section
open L2 PySem.Spec
variable {prog : Program} {w : World} {A : Around} {E : Value → Shared → Prop} {s : Shared} {b : Bool}
theorem sortedG_range {r : Addr} {lo step hi : Int} {t u v : Tok} {n : Nat} {f : Value} {kw : List (Str × Value)} {Q : Value → Shared → Prop} (hh : A.handled = none) (hr : IsRange s.heap r lo hi step t u v) (hsmall : Builtin.Range.small lo hi step = true) (hn : Builtin.Range.rangeSize lo hi step = n) (hlen : n ≤ 2 ^ 24)
    (ha1 : argsOk "sorted" ⟨[.ref r], kw⟩) (ha2 : ∀ x, argsOk "list.sort" ⟨[.ref x], kw⟩) (ht : ∀ x, Builtin.«list.sort» ⟨[.ref x], kw⟩ = ksk_tree x f b)
    (go : ∀ (hb h0 : Heap) (tk : Nat) (acc : List Value) (a : Addr), (∀ b o, s.heap.get? b = some o → hb.get? b = some o) → (∀ b o, hb.get? b = some o → h0.get? b = some o) → hb.objs.size ≤ a → ItemsOf (fun i v => ∃ t, v = .int (lo + i * step) t) acc.toArray n → acc.length = n → h0.get? a = some (seqObj "list" acc.toArray 0) →
      ∀ (kS e1 : Nat) (h1 : Heap), KeepsBut a h0 h1 → h0.get? kS = none → h0.objs.size ≤ kS → kS ≠ a → h1.get? kS = some (seqObj "list" #[] 0) → h1.get? a = some (seqObj "list" #[] e1) →
        ∃ G : List Value → Shared → Prop, G [] { s with heap := h1, toks := tk } ∧ KeyTurn prog w A.in1.in1 a kS f acc e1 G ∧
          ∀ ks s', ks.length = acc.length → G ks s' → KeysEnd A.in1.in1 a kS b acc (fun f s'' => f = .done (.ret .none) ∧ Q (.ref a) s'') ks s') :
    wpAny (model prog w) A (call (.builtin "sorted") [.ref r] kw) Q E s := by
  refine call_function_entry_kw kind_sorted plain_sorted entry_sorted ha1 ?_
  unfold Builtin.«sorted»
  refine wpAny_bind (m := checkCount "sorted" 1 1 _) (wpAny_pure ?_)
  refine wpAny_bind (collect_range hh hr hsmall hn hlen fun h' tk acc hk hi => ?_)
  have hsz : acc.toList.length = n := by
    have := hi.1
    rw [Array.length_toList]
    exact this
  have hL : acc.toList.length ≤ sizeLine := by rw [hsz, sizeLine_eq]; omega
  refine wpAny_bind (wpAny_newList ?_ hL)
  have hat : (h'.push (seqObj "list" acc.toList.toArray 0)).get? h'.objs.size = some (seqObj "list" acc.toList.toArray 0) := Heap.get?_push_size _ rfl
  have hnone : s.heap.get? h'.objs.size = none := by
    cases q : s.heap.get? h'.objs.size with
    | none => rfl
    | some o => exact absurd (Heap.lt_size (hk _ _ q)) (Nat.lt_irrefl _)
  refine wpAny_bind (wpAny_holding (wpAny_call_entry_kw slot_list_sort ⟨_, hat, rfl⟩ entry_list_sort ?body (ha2 _)))
  case body =>
    show wpAny (model prog w) A.in1.in1 (Builtin.«list.sort» ⟨[.ref h'.objs.size], kw⟩) _ _ _
    rw [ht]
    refine wpAny_mono (keyG_tree (E := E) (b := b) (P := fun f s'' => f = .done (.ret .none) ∧ Q (.ref h'.objs.size) s'') hat hL
      (go h' (h'.push (seqObj "list" acc.toList.toArray 0)) tk acc.toList h'.objs.size hk (fun b o q => Heap.get?_push_of_some _ q) (Nat.le_refl _) (by rw [Array.toArray_toList]; exact hi) hsz hat)) (fun f s' hf => ?_) fun _ _ e => e
    obtain ⟨rfl, hq⟩ := hf
    exact ⟨_, rfl, wpAny_pure ⟨_, rfl, hq⟩⟩
end
end Zsk
end

section
set_option Elab.async false
set_option linter.all false
set_option autoImplicit false
set_option maxRecDepth 100000
set_option maxHeartbeats 2000000
/-! A lambda with one parameter, called where it was made. -/
namespace Zsl
open PySem PySem.Spec PyProof.Rows L2 LamX
/-- one parameter x, a slot of it in N; captured names and globals else -/
structure LamP (N : List Str) (sc scope : Scope) (x : Str) (j : Nat) : Prop where
  kind : scope.kind = .function
  co : scope.isCoroutine = false
  gen : scope.isGenerator = false
  own : ∀ y ∈ scope.names, y.2 ≠ .cell ∧ (y.2 = .local → y.1 = x)
  par : scope.names.lookup x = some .local
  free : ∀ y ∈ scope.names, y.2 = .free → sc.names.lookup y.1 = some .cell ∨ sc.names.lookup y.1 = some .free
  slot : N[j]? = some x
  uniq : ∀ i, N[i]? = some x → i = j
section
variable {X : Cx} {pins : List (Addr × Obj)} {σ : L2.St} {H HZ : Hp} {s s1 : Shared}
theorem LamP.has {scope : Scope} {x : Str} {j : Nat} (L : LamP X.N X.env.scope scope x j) (ok : X.Ok) : ∀ y ∈ scope.names, y.2 = .free → ∃ c, X.env.cells.lookup y.1 = some c := fun y hy e => by
  rcases L.free y hy e with k | k
  · exact ok.has _ (.inl k)
  · exact ok.has _ (.inr k)
theorem lam_startP {A : Around} {outer : List Env} {E : XK} {scope : Scope} {x : Str} {j : Nat} {u : Value} {v : V} {f c' : Addr} {h₁ : Heap} {tk : Nat} (I : Inv X pins σ H s) (L : LamP X.N X.env.scope scope x j) (e0 : Env0 X.prog X.w X.K X.mg X.base A outer s1 HZ) (hd : A.handled = none)
    (un : Un (frs X.stack) [] H HZ s.heap s1.heap) (r : RelV v u) (hns : h₁.Ns s1.heap.objs.size fun y => ([(x, u)] : List (Str × Value)).reverse.lookup y) (kp : ∀ b o, s1.heap.get? b = some o → h₁.get? b = some o) :
    Inv (lamCx X A outer s1 HZ E scope f c') [] (σ.set j (some v)) HZ { s1 with heap := h₁, toks := tk } := by
  have hfree := L.has I.ok
  have cm : ∀ {y c}, (cloFrom X.env.cells scope.names []).lookup y = some c → X.env.cells.lookup y = some c := fun {y c} e => by
    rcases cloFrom_mem (PySem.mem_of_lookup e) with hm | ⟨h1, h2⟩
    · cases hm
    · obtain ⟨c1, hc⟩ := hfree _ h1 rfl
      have hc : X.env.cells.lookup y = some c1 := hc
      have e2 : c = c1 := by
        rw [h2, hc] <;> rfl
      rw [e2]
      exact hc
  have look : ∀ {y}, scope.names.lookup y = some .free → ∃ c, (cloFrom X.env.cells scope.names []).lookup y = some c := fun {y} hl => by
    have hy : (y, NameKind.free) ∈ scope.names := PySem.mem_of_lookup hl
    exact mem_lookup (cloFrom_has (cells := X.env.cells) (acc := []) hy)
  have cellK : ∀ {c : Addr} {v : Option Value}, H c = none → s.heap.IsCell c v → h₁.IsCell c v := fun {c v} n ⟨o, ho, hd⟩ => by
    obtain ⟨sl, q⟩ := un.any ho n (by simp)
    exact ⟨_, kp _ _ q, hd⟩
  have noA : ∀ b : Addr, b ∉ (lamCx X A outer s1 HZ E scope f c').ex := fun b z => absurd (show b ∈ ([] : List Addr) from z) (by simp)
  refine ⟨⟨e0.mod, L.kind, rfl, rfl, Nat.le_refl _, fun y z c e1 e2 => I.ok.inj y z c (cm e1) (cm e2), fun y hy => ?_, fun y c z _ => ?_, fun _ => hd, Around.frames_deeper e0.frames, .inr ⟨rfl, rfl⟩, fun b z => absurd z (noA b), e0.bs, e0.bsz, fun b _ _ => noA b,
      fun b z => absurd z (noA b), e0.funs, e0.frf⟩,
    rfl, e0.bare, Un.kept kp, ⟨_, hns, fun i y v' e1 e2 e3 => ?_⟩, fun y c e => ?_, e0.hok.fresh (Nat.le_refl _), fun y c e => ?_, fun q hq => absurd (show q ∈ ([] : List (Addr × Obj)) ++ [] from hq) (by simp), e0.hok.kept kp, by rw [List.length_set]; exact I.len⟩
  · have hy : scope.names.lookup y = some .cell ∨ scope.names.lookup y = some .free := hy
    rcases hy with hy | hy
    · exact absurd rfl (L.own _ (PySem.mem_of_lookup hy)).1
    · exact look hy
  · have z : false = true := z
    cases z
  · have e3 : Vis scope y := e3
    have e1 : X.N[i]? = some y := e1
    by_cases hyx : y = x
    · subst hyx
      obtain rfl := L.uniq i e1
      have hj : i < σ.length := by rw [I.len]; exact (List.getElem?_eq_some_iff.mp e1).1
      rw [List.getElem?_set_self hj] at e2
      cases e2
      refine ⟨u, r, .inl ⟨L.par, ?_⟩⟩
      simp
    · have hij : j ≠ i := fun z => by
        subst z
        rw [L.slot] at e1
        exact hyx (Option.some.inj e1).symm
      rw [List.getElem?_set_ne hij] at e2
      rcases e3 with k | k | k
      · exact absurd ((L.own _ (PySem.mem_of_lookup k)).2 rfl) hyx
      · exact absurd rfl (L.own _ (PySem.mem_of_lookup k)).1
      · obtain ⟨m, hn, hl⟩ := I.loc
        have hvis : Vis X.env.scope y := (L.free _ (PySem.mem_of_lookup k) rfl).elim (fun k => .inr (.inl k)) (fun k => .inr (.inr k))
        obtain ⟨w', r, q⟩ := hl i y v' e1 e2 hvis
        obtain ⟨c2, h2⟩ := look k
        refine ⟨w', r, .inr ⟨.inr k, c2, h2, ?_⟩⟩
        have c1 := cm h2
        rcases q with ⟨k', _⟩ | ⟨_, c3, e', z⟩
        · have k' : X.env.scope.names.lookup y = some .local := k'
          rcases L.free _ (PySem.mem_of_lookup k) rfl with k2 | k2 <;> rw [show X.env.scope.names.lookup y = _ from k2] at k' <;> cases k'
        · rw [c1] at e'
          cases e'
          exact cellK (I.freeC y _ c1) z
  · obtain ⟨w', z⟩ := I.cell y c (cm e)
    exact ⟨w', cellK (I.freeC y c (cm e)) z⟩
  · obtain ⟨v, o, ho, hd⟩ := I.cell y c (cm e)
    exact un.free c o ho (I.freeC y c (cm e)) (by simp)
def noE : XK := fun _ _ _ => False
/-- the lambda f called with u: what its body makes of it -/
def LamPost (X : Cx) (pins : List (Addr × Obj)) (σ : L2.St) (Q : VK) (f : Addr) (fo : Obj) (u : Value) (s' : Shared) : Prop := ∃ v H', Inv X pins σ H' s' ∧ RelV v u ∧ Q v H' ∧ H' f = none ∧ s'.heap.get? f = some fo
theorem lam_callP {A : Around} {scope : Scope} {x : Str} {j k : Nat} {u : Value} {v : V} {f c' : Addr} {pm ctv : Value} {params : Arguments} {body : Expr} {tb : TE} {Q : VK} (I : Inv X pins σ H s) (L : LamP X.N X.env.scope scope x j)
    (hf : s.heap.get? f = some (PySem.W.kla_obj "<lambda>" (X.env.qual ++ "<lambda>") params body scope (cloFrom X.env.cells scope.names []) pm c' ctv)) (hc : H c' = some (CodeO c' (X.env.qual ++ "<lambda>"))) (hfn : H f = none) (hfr : f ∉ frs X.stack)
    (hbind : bindArgs (PySem.W.kla_fn "<lambda>" (X.env.qual ++ "<lambda>") params body scope (cloFrom X.env.cells scope.names []) pm (.ref c') ctv) ⟨[u], []⟩ = pure [(x, u)])
    (hA : A.frames = X.A.frames) (hr : Room (k + 1) A)
    (hbody : ∀ (A : Around) (outer : List Env) (s : Shared) (H : Hp), Room k (A.deeper (lamEnv X scope s.heap.objs.size f c')) → PE (lamCx X A outer s H noE scope f c') body tb)
    (r : RelV v u) (h : tb (σ.set j (some v)) H Q) : wpAny (model X.prog X.w) A (call (.ref f) [u]) (LamPost X pins σ Q f (PySem.W.kla_obj "<lambda>" (X.env.qual ++ "<lambda>") params body scope (cloFrom X.env.cells scope.names []) pm c' ctv)) (fun _ _ => False) s := by
  obtain ⟨⟨oc, vs, t, hoc, hdc, hvc⟩, _, _⟩ := I.hok c' _ hc
  have e0 : Env0 X.prog X.w X.K X.mg X.base A X.stack s H := ⟨hA.trans I.env0.frames, I.env0.mod, I.env0.bs, I.env0.bsz, I.env0.funs, I.env0.frf, I.env0.hok, I.env0.bare⟩
  have rc : codeAny (model X.prog X.w) A (.call (.ref f) ⟨[u], []⟩) (CR (L2.CX X.prog X.w) X.stack X.prog X.w H s Q noE) s := by
    refine PySem.W.kla_callFunE hr.depth hf rfl L.co L.gen rfl ⟨c', oc, vs, t, rfl, hoc, hdc, hvc⟩ ?_
    rw [hbind]
    refine wpAny_pure (wpAny_newFunctionEnv (fun y hy => (L.own y hy).1) (fun y hy => by rw [List.mem_singleton.mp hy]; exact L.par) (fun h₁ hns hsb => ⟨I.nolimit.fresh _ hsb, ?_⟩) L.kind)
    show codeAny _ _ (.expr body (lamEnv X scope s.heap.objs.size f c')) _ _
    have kp : ∀ b o, s.heap.get? b = some o → h₁.get? b = some o := fun b o e => hsb.extBut b o (Nat.ne_of_lt (Heap.lt_size e)) (Heap.get?_push_of_some _ e)
    have J : Inv (lamCx X A X.stack s H noE scope f c') [] (σ.set j (some v)) H { s with heap := h₁, toks := s.toks + ([(x, u)] : List (Str × Value)).length } :=
      lam_startP I L e0 hr.hd Un.refl r hns kp
    refine PySem.W.kla_codeExpr (wpAny_mono ((hbody _ _ s H (hr.deeper _)).run [] _ _ H Q J h) (fun v s' hq => ?_) fun e s' hq => hq)
    obtain ⟨w', H', J', rv, q⟩ := hq
    exact ⟨w', H', J'.os, J'.bare, J'.base, J'.hok, rv, q⟩
  refine wpAny_call (codeAny_mono rc fun r s' hq => ?_)
  cases r with
  | error e =>
    obtain ⟨_, _, _, _, _, _, _, _, _, _, _, _, z⟩ := hq
    exact z.elim
  | ok fl =>
    cases fl with
    | ret u =>
      have hk : CE X.stack X.prog X.w H s Q u s' := hq
      obtain ⟨v, H', os, bare, un, hok, rv, q⟩ := hk
      obtain ⟨hh, g, d, t, os'⟩ := s'
      obtain rfl : os' = s.os := os
      exact ⟨v, H', I.call (h' := hh) (g' := g) (d' := d) (t' := t) (ch := []) un hok bare (fun b z => absurd z (by simp)), rv, q, un.free f _ hf hfn (by simp), un.keep f _ hf hfn hfr (by simp)⟩
    | next => exact False.elim hq
    | brk => exact False.elim hq
    | cont => exact False.elim hq
end
end Zsl
end

section
set_option Elab.async false
set_option linter.all false
set_option autoImplicit false
set_option maxRecDepth 100000
set_option maxHeartbeats 2000000
/-! sorted(range(n), key=lambda x: ..) where the lambda is written in the call. -/
namespace Zsl
open PySem PySem.Spec PySem.W PySem.Calls PyProof.Rows L2 LamX Zsk
open Evl (Ex)
mutual
theorem Dp.ex {K : Frag} {H H' : Hp} (e : Ex H H') : ∀ {v : V} {d : PyData}, Dp K H v d → Dp K H' v d
  | _, _, .non => .non
  | _, _, .bl b => .bl b
  | _, _, .int i => .int i
  | _, _, .str s => .str s
  | _, _, .lst h r => .lst (Evl.ex_l e h) (DpAll.ex e r)
  | _, _, .tup h r => .tup (Evl.ex_t e h) (DpAll.ex e r)
theorem DpAll.ex {K : Frag} {H H' : Hp} (e : Ex H H') : ∀ {vs : List V} {ds : List PyData}, DpAll K H vs ds → DpAll K H' vs ds
  | _, _, .nil => .nil
  | _, _, .cons h r => .cons (Dp.ex e h) (DpAll.ex e r)
end
theorem ints_each : ∀ {is : List Int} {us : List Value}, EachIs (fun v i => RelV (V.int i) v) us is → Vals (is.map V.int) us
  | _, _, .nil => .nil
  | _, _, .cons h t => .cons h (ints_each t)
theorem each_ints : ∀ {is : List Int} {us : List Value}, Vals (is.map V.int) us → EachIs (fun v i => RelV (V.int i) v) us is
  | [], [], _ => .nil
  | [], _ :: _, h => by cases h
  | i :: is, us, h => by
    cases h with
    | cons h t => exact .cons h (each_ints t)
def intsTo (n : Int) : List Int := (List.range n.toNat).map fun i : Nat => (i : Int)
theorem intsTo_len (n : Int) : (intsTo n).length = n.toNat := by unfold intsTo; simp
section
variable {X : Cx} {pins : List (Addr × Obj)} {σ : L2.St} {H H' : Hp} {s : Shared}
theorem FpOk.at {b : Addr} (h : FpOk X pins H b) (n : H' b = none) : FpOk X pins H' b := ⟨n, h.2⟩
/-- two untracked objects of ours have changed; one of them is tracked from now on -/
theorem Inv.turned2 {t' : Nat} {a kS : Addr} {o : HO} {h' : Heap} (I : Inv X pins σ H s) (fa : FpOk X pins H a) (fk : FpOk X pins H kS) (k : ∀ b o, b ≠ a → b ≠ kS → s.heap.get? b = some o → h'.get? b = some o) (new : ObjOk X.prog X.w (upd H a o) h' a o) : Inv X pins σ (upd H a o) { s with heap := h', toks := t' } := by
  have na : ∀ b u, H b = some u → b ≠ a := fun b u e z => by rw [z, fa.1] at e; cases e
  have nk : ∀ b u, H b = some u → b ≠ kS := fun b u e z => by rw [z, fk.1] at e; cases e
  refine I.step (g' := s.gens) (d' := s.drawn) (ch := [a, kS]) (fun b hb => ?_) (fun b o _ _ hc e _ => k b o (fun z => hc (by simp [z])) (fun z => hc (by simp [z])) e) (fun b o _ _ hc e _ => ⟨o.slots, k b o (fun z => hc (by simp [z])) (fun z => hc (by simp [z])) e⟩)
    (fun b _ hc _ n => by rw [upd_ne (fun z => hc (by simp [z]))]; exact n)
    (fun b o hc e => ⟨o, k b o (fun z => hc (by simp [z])) (fun z => hc (by simp [z])) e⟩) (fun b _ e => by rw [upd_ne (na b _ e)]; exact e) (fun b _ _ e => by rw [upd_ne (na b _ e)]; exact e) (fun b ps e => ⟨#[], by rw [upd_ne (na b _ e), e]; simp⟩) (fun m hm => ?_) (fun b u e => ?_) I.bare
  · rcases List.mem_cons.mp hb with z | z
    · rw [z]; exact ⟨fa.2.2.2.1, fa.2.1, fa.2.2.2.2.1, fa.2.2.2.2.2⟩
    · rw [List.mem_singleton.mp z]; exact ⟨fk.2.2.2.1, fk.2.1, fk.2.2.2.2.1, fk.2.2.2.2.2⟩
  · obtain ⟨o, es, ep, ho, r⟩ := hm
    exact ⟨o, es, ep, k _ o (Ne.symm fa.2.1) (Ne.symm fk.2.1) ho, r⟩
  · by_cases hb : b = a
    · subst hb
      rw [upd_same] at e
      cases e
      exact new
    · rw [upd_ne hb] at e
      refine (I.hok b u e).stay (fun c v hc q => k c v ?_ ?_ q) (fun c q => by rw [upd_ne (na c _ q)]; exact q) fun c xs q => by rw [upd_ne (na c _ q)]; exact q
      · rcases hc with z | z
        · rw [z]; exact na b u e
        · exact na c _ z
      · rcases hc with z | z
        · rw [z]; exact nk b u e
        · exact nk c _ z
end
def tSortKR (K : Frag) (T : List (Addr × Str)) (j : Nat) (ta tb : TE) : TE := fun σ H Q => ta σ H fun v H1 => ∃ n : Int, v = .int n ∧ RgOk 0 n ∧ Tabs T H1 ∧ ∀ H2, ExtN H1 H2 → Tabs T H2 →
  ∃ k : Int → PyData, AllAlike ((intsTo n).map k) ∧ Sortable ((intsTo n).map k) ∧ (∀ i ∈ intsTo n, (k i).depth ≤ 8) ∧
    (∀ i ∈ intsTo n, ∀ H3, Ex H2 H3 → tb (σ.set j (some (.int i))) H3 fun v H4 => Ex H3 H4 ∧ Dp K H4 v (k i)) ∧
    ∀ q H4, Ex H2 H4 → H4 q = none → Q (.ref q) (upd H4 q (.lst (((intsTo n).mergeSort (dataLe false k)).map V.int)))
section
variable {X : Cx} {T : List (Addr × Str)} {c P : Addr} {params : Arguments} {a body : Expr} {scope : Scope} {x : Str} {j k : Nat} {ta tb : TE} {p1 p2 p3 lpos kpos pos : Pos}
theorem pe_sortKR (hc : X.calm = true) (hr : Room (k + 5) X.A) (hgS : Gl X "sorted") (hmS : X.mg "sorted" = none) (hgR : Gl X "range") (hmR : X.mg "range" = none) (ha : PE X a ta)
    (TB : LamX.TabB X.base X.mg c P) (hcode : X.env.code = .ref c) (hm : (P, X.env.qual ++ "<lambda>") ∈ T) (hu : ∀ p ∈ T, p.1 = P → p.2 = X.env.qual ++ "<lambda>") (hdef : defaultsOf params X.env = ([], [])) (L : X.Ok → LamP X.N X.env.scope scope x j)
    (hbind : ∀ (u pm ctv : Value) (c' : Addr) (cl : List (Str × Addr)), bindArgs (kla_fn "<lambda>" (X.env.qual ++ "<lambda>") params body scope cl pm (.ref c') ctv) ⟨[u], []⟩ = pure [(x, u)])
    (hbody : ∀ (f c' : Addr) (A : Around) (outer : List Env) (s : Shared) (H : Hp), Room k (A.deeper (lamEnv X scope s.heap.objs.size f c')) → PE (lamCx X A outer s H noE scope f c') body tb)
    (na : starEach [a] X.env = (false, eval a X.env) :: starEach [] X.env := by rfl)
    (ne : backTo pos (starEach [.Call (.Name "range" p2) [a] [] p3] X.env) = (false, eval (.Call (.Name "range" p2) [a] [] p3) X.env) :: backTo pos (starEach [] X.env) := by rfl) (hpl : (backTo pos (starEach [.Call (.Name "range" p2) [a] [] p3] X.env)).any (·.1) = false := by rfl) :
    PE X (.Call (.Name "sorted" p1) [.Call (.Name "range" p2) [a] [] p3] [⟨some "key", .Lambda params body scope lpos, kpos⟩] pos) (tSortKR X.K T j ta tb) := by
  refine ⟨fun pins s σ H Q I h => ?_⟩
  refine wpAny_Call_Name_kw (ld_blt I hgS hmS (by rfl) ?_)
  refine PyProof.Rows.callWith_kw ?_ ne hpl (by rfl) (by rfl)
  have h : ta σ H _ := h
  refine args_cons (Call_ (ld_blt I hgR hmR boot_range (callWith_type1 (one_arg ha I h (fun v s2 y H2 I2 r q => ?_) na) na))) (by rfl)
  obtain ⟨n, rfl, hrg, hT, q⟩ := q
  obtain ⟨t, rfl⟩ := r
  refine call_range_1 (args_nil ?_)
  obtain ⟨b1, b2, b3, b4, b5⟩ := hrg
  have rgI : IsRange ({ s2 with heap := s2.heap.push { cls := .type "range", data := .fields #[.int 0 s2.toks, .int n t, .int 1 (s2.toks + 1)] }, toks := s2.toks + 1 + 1 } : Shared).heap s2.heap.objs.size 0 n 1 s2.toks t (s2.toks + 1) := IsRange.new _ _ _ _ _ _ _
  have I3 : Inv X pins σ H2 { s2 with heap := s2.heap.push { cls := .type "range", data := .fields #[.int 0 s2.toks, .int n t, .int 1 (s2.toks + 1)] }, toks := s2.toks + 1 + 1 } := I2.kept fun b u e => Heap.get?_push_of_some _ e
  have fpr : FpOk X pins H2 s2.heap.objs.size := I2.fpOk (Nat.le_refl _) (I2.hok.fresh (Nat.le_refl _))
  generalize hs3 : ({ s2 with heap := s2.heap.push { cls := .type "range", data := .fields #[.int 0 s2.toks, .int n t, .int 1 (s2.toks + 1)] }, toks := s2.toks + 1 + 1 } : Shared) = s3 at rgI I3 ⊢
  have Ip : Inv X (pins ++ pinsAt [s2.heap.objs.size] s3.heap) σ H2 s3 := I3.pinned (fun b hb => by rw [List.mem_singleton.mp hb]; exact fpr) (fun b hb => by rw [List.mem_singleton.mp hb]; exact ⟨_, rgI, fun v z => by cases z⟩)
  show wpAny _ _ (evalAll [do let v ← eval (.Lambda params body scope lpos) X.env; standAt pos; pure v]) _ _ _
  refine wpAny_evalAll_cons (wpAny_bind (lam_make2 Ip TB hcode hm hu hT hdef ((L I.ok).has I.ok) fun f c' pm ctv H3 s4 I4 ext hT4 hf hfn hfr hc4 => wpAny_bind (wpAny_standAt (wpAny_pure (wpAny_evalAll_nil ?_)))))
  have rg4 : IsRange s4.heap s2.heap.objs.size 0 n 1 s2.toks t (s2.toks + 1) := (I4.pin (s2.heap.objs.size, _) (List.mem_append_right _ (List.mem_append_right _ (mem_pinsAt (List.mem_singleton.mpr rfl) rgI)))).1
  have I4' : Inv X pins σ H3 s4 := I4.unpinned
  obtain ⟨ky, hal, hsk, hdp, hkey, hq⟩ := q H3 ext hT4
  show wpAny _ _ (call (.builtin "sorted") [.ref s2.heap.objs.size] [(Str.ofString "key", .ref f)]) _ _ _
  refine sortedG_range (b := false) (n := n.toNat) hr.hd rg4 (small_one b1 b2 b3 b4) (by have := rangeSize_nat 0 n; rwa [Int.sub_zero] at this) (by rwa [Int.sub_zero] at b5) (ksk_s1 _ _) (fun _ => ksk_l1 _ _) (fun _ => ksk_t1 _ _) ?_
  intro hb h0 tk acc av hk hk0 hle hi hlen hat kS e1 h1 kp hkS hsz hne nk na1
  have Ib : Inv X pins σ H3 { s4 with heap := hb, toks := tk } := I4'.kept hk
  have fa : FpOk X pins H3 av := Ib.fpOk hle (Ib.hok.fresh hle)
  have I0 : Inv X pins σ H3 { s4 with heap := h0, toks := tk } := I4'.kept fun b o e => hk0 b o (hk b o e)
  have fk : FpOk X pins H3 kS := I0.fpOk hsz (I0.hok.fresh hsz)
  have I1 : Inv X pins σ H3 { s4 with heap := h1, toks := tk } := L2.Inv.turned (s := { s4 with heap := h0, toks := tk }) (h' := h1) (it := av) (t' := tk) I0 (fun b o hb e => kp b o hb e) fa.1 fa.2.1 fa.2.2.2.1 fa.2.2.2.2.1 fa.2.2.2.2.2
  have fne : f ≠ av := Nat.ne_of_lt (Nat.lt_of_lt_of_le (Heap.lt_size (hk _ _ hf)) hle)
  have fnk : f ≠ kS := Nat.ne_of_lt (Nat.lt_of_lt_of_le (Heap.lt_size (hk0 _ _ (hk _ _ hf))) hsz)
  have f1 := kp _ _ fne (hk0 _ _ (hk _ _ hf))
  have iv : ∀ (i : Nat) (v : Value), acc[i]? = some v → RelV (V.int (i : Int)) v ∧ (i : Int) ∈ intsTo n := fun i v e => by
    obtain ⟨t, z⟩ := hi.2 i v (by simpa using e)
    refine ⟨⟨t, by rw [z, Int.zero_add, Int.mul_one]⟩, ?_⟩
    unfold intsTo
    have := (List.getElem?_eq_some_iff.mp e).1
    exact List.mem_map.mpr ⟨i, List.mem_range.mpr (by omega), rfl⟩
  refine ⟨fun ks s' => ∃ H', Inv X pins σ H' s' ∧ H' kS = none ∧ H' av = none ∧ H' f = none ∧ s'.heap.get? f = some (kla_obj "<lambda>" (X.env.qual ++ "<lambda>") params body scope (cloFrom X.env.cells scope.names []) pm c' ctv) ∧ Ex H3 H' ∧
    EachIs (fun u i => ∃ v, RelV v u ∧ Dp X.K H' v (ky i)) ks ((intsTo n).take ks.length), ⟨H3, I1, fk.1, fa.1, hfn, f1, Evl.Ex.refl H3, .nil⟩, ?_, ?_⟩
  · rintro v ks s' kA e hv ⟨H', I', n1, n2, n3, ef, up, hb⟩ nk' na'
    obtain ⟨rv, mi⟩ := iv _ _ hv
    have Iq : Inv X (pins ++ pinsAt [kS, av] s'.heap) σ H' s' := I'.pinned (fun b hb => by
      rcases List.mem_cons.mp hb with z | z
      · rw [z]; exact FpOk.at fk n1
      · rw [List.mem_singleton.mp z]; exact FpOk.at fa n2) (fun b hb => by
      rcases List.mem_cons.mp hb with z | z
      · rw [z]; exact ⟨_, nk', fun v z => by cases z⟩
      · rw [List.mem_singleton.mp z]; exact ⟨_, na', fun v z => by cases z⟩)
    refine wpAny_mono (lam_callP (A := X.A.in1.in1) Iq (L I.ok) ef (up _ _ hc4) n3 hfr (hbind v pm ctv c' _) rfl ((Room.in1 (Room.in1 (hr.mono (by omega : k + 1 + 1 + 1 ≤ k + 5))))) (hbody f c') rv (hkey _ mi H' up)) (fun u s'' hp => ?_) (fun _ _ z => z)
    obtain ⟨v', H'', I'', rv', ⟨e'', dp⟩, nf'', ef''⟩ := hp
    have pk := I''.pin (kS, _) (List.mem_append_right _ (List.mem_append_right _ (mem_pinsAt (by simp) nk')))
    have pa := I''.pin (av, _) (List.mem_append_right _ (List.mem_append_right _ (mem_pinsAt (by simp) na')))
    refine ⟨pk.1, pa.1, fun h' sb => ⟨H'', I''.unpinned.turned (it := kS) (t' := s''.toks) (fun b o hb q => (sb.2 b hb).trans q) pk.2.1 fk.2.1 fk.2.2.2.1 fk.2.2.2.2.1 fk.2.2.2.2.2, pk.2.1, pa.2.1, nf'', (sb.2 f fnk).trans ef'', up.trans e'', ?_⟩⟩
    have et : (intsTo n).take (ks ++ [u]).length = (intsTo n).take ks.length ++ [(ks.length : Int)] := by
      have hl := (List.getElem?_eq_some_iff.mp hv).1
      rw [List.length_append, List.length_singleton, List.take_add_one]
      congr 1
      unfold intsTo
      rw [List.getElem?_map, List.getElem?_range (by omega)]
      rfl
    rw [et]
    exact each_snoc ⟨v', rv', dp⟩ (hb.mono fun u i ⟨v, r, d⟩ => ⟨v, r, Dp.ex e'' d⟩)
  · rintro ks s' hl ⟨H', I', n1, n2, n3, ef, up, hb⟩
    have hbs : (intsTo n).take ks.length = intsTo n := List.take_of_length_le (by rw [intsTo_len]; omega)
    rw [hbs] at hb
    refine ⟨(intsTo n).map ky, each_map ky (hb.mono fun u i ⟨v, r, d⟩ => Dp.reads I' _ v u d r), hal, hsk, fun d hd => ?_, fun h' tk2 out cc kk ho ko => ⟨rfl, .ref av, upd H' av (.lst (((intsTo n).mergeSort (dataLe false ky)).map V.int)), ?_, rfl, hq av H' up n2⟩⟩
    · obtain ⟨i, mi, rfl⟩ := List.mem_map.mp hd
      have h8 := hdp i mi
      have hun := hr.un
      show X.A.units + 1 + 1 + (ky i).depth < cLine
      omega
    · have hR : EachIs (fun v i => RelV (V.int i) v) acc (intsTo n) := each_ints (by
        have := vals_rg (a := 0) (b := n) (acc := acc.toArray) (by rw [Int.sub_zero]; exact hi)
        unfold rgV at this
        unfold intsTo
        rw [List.map_map]
        have e2 : (List.range (n - 0).toNat).map (fun i => V.int (0 + (i : Nat))) = (List.range n.toNat).map (V.int ∘ fun i : Nat => (i : Int)) := by
          rw [Int.sub_zero]
          exact List.map_congr_left fun i _ => by simp
        rw [e2] at this
        simpa using this)
      have hout := ints_each (keyedOut_each ky ko hR)
      refine Inv.turned2 I' (FpOk.at fa n2) (FpOk.at fk n1) kk ⟨?_, out, cc, hout, ho⟩
      rw [List.length_map, (List.mergeSort_perm _ _).length_eq, intsTo_len, sizeLine_eq]
      have : n.toNat ≤ 2 ^ 24 := by rwa [Int.sub_zero] at b5
      omega
end
end Zsl
end

section
set_option Elab.async false
set_option linter.all false
set_option maxRecDepth 100000
set_option autoImplicit false
set_option maxHeartbeats 2000000
/-! Readings of what lets tables of code objects grow: T, the tables; H0, what must stay, has no table. -/
namespace Zst2
open PySem L2 Zk LamX
open Evl (Ex)
/-- all but the tables -/
def strip (H : Hp) : Hp := fun a => match H a with
  | some (.tbl _) => none
  | o => o
theorem strip_some {H : Hp} {a : Addr} {o : HO} (h : H a = some o) (n : ∀ ps, o ≠ .tbl ps) : strip H a = some o := by
  unfold strip
  rw [h]
  cases o with
  | tbl ps => exact absurd rfl (n ps)
  | _ => rfl
theorem of_strip {H : Hp} {a : Addr} {o : HO} (h : strip H a = some o) : H a = some o ∧ ∀ ps, o ≠ .tbl ps := by
  unfold strip at h
  cases e : H a with
  | none => rw [e] at h; cases h
  | some u =>
    rw [e] at h
    cases u with
    | tbl ps => cases h
    | _ => cases h; exact ⟨rfl, fun ps z => by cases z⟩
theorem strip_ext {H H' : Hp} (e : ExtN H H') : Ex (strip H) H' := fun a o h => e a o (of_strip h).1 (of_strip h).2
theorem ext_strip {H H' : Hp} (e : Ex (strip H) H') : ExtN H H' := fun a o h n => e a o (strip_some h n)
def NoTab (H : Hp) : Prop := ∀ a ps, H a ≠ some (.tbl ps)
theorem noTab_strip (H : Hp) : NoTab (strip H) := fun a ps h => (of_strip h).2 ps rfl
end Zst2
namespace Zk
open PySem L2 LamX Zst2
open Evl (Ex)
section
variable {K : PySem.W.Frag} {O O' : Addr → Prop} {H H' : Hp}
mutual
theorem Rp.strp : ∀ {v : V} {d : D}, Rp K O H v d → Rp K O (strip H) v d
  | _, _, .non => .non
  | _, _, .bl b => .bl b
  | _, _, .int i => .int i
  | _, _, .str s => .str s
  | _, _, .ty n => .ty n
  | _, _, .cls C => .cls C
  | _, _, .lst n h r => .lst n (strip_some h fun _ z => by cases z) (RpA.strp r)
  | _, _, .tup n h r => .tup n (strip_some h fun _ z => by cases z) (RpA.strp r)
  | _, _, .dct n h e r => .dct n (strip_some h fun _ z => by cases z) e (RpA.strp r)
  | _, _, .dck n h e r => .dck n (strip_some h fun _ z => by cases z) e (RpA.strp r)
  | _, _, .sti n h => .sti n (strip_some h fun _ z => by cases z)
  | _, _, .exn n h r => .exn n (strip_some h fun _ z => by cases z) (RpF.strp r)
  | _, _, .adr r => .adr (Rp.strp r)
  | _, _, .scr n (.inl h) => .scr n (.inl (strip_some h fun _ z => by cases z))
  | _, _, .scr n (.inr ⟨o, h⟩) => .scr n (.inr ⟨o, strip_some h fun _ z => by cases z⟩)
  | _, _, .kscr h => .kscr h
  | _, _, .ins n h r => .ins n (strip_some h fun _ z => by cases z) (RpF.strp r)
theorem RpA.strp : ∀ {v : List V} {d : List D}, RpA K O H v d → RpA K O (strip H) v d
  | _, _, .nil => .nil
  | _, _, .cons h r => .cons (Rp.strp h) (RpA.strp r)
theorem RpF.strp : ∀ {v : List (Str × V)} {d : List (Str × D)}, RpF K O H v d → RpF K O (strip H) v d
  | _, _, .nil => .nil
  | _, _, .cons h r => .cons (Rp.strp h) (RpF.strp r)
end
theorem Rp.gro {v : V} {d : D} (r : Rp K O H v d) (e : ExtN H H') : Rp K O H' v d := (Rp.strp r).ex (strip_ext e)
theorem RpA.gro {v : List V} {d : List D} (r : RpA K O H v d) (e : ExtN H H') : RpA K O H' v d := (RpA.strp r).ex (strip_ext e)
theorem RpO.strp {a : Addr} {d : D} (r : RpO K O H a d) : RpO K O (strip H) a d := by
  cases d with
  | lst ds => obtain ⟨xs, h, q⟩ := r; exact ⟨xs, strip_some h (fun _ z => by cases z), RpA.strp q⟩
  | ins C gs => obtain ⟨dx, fs, h, q⟩ := r; exact ⟨dx, fs, strip_some h (fun _ z => by cases z), RpF.strp q⟩
  | dct kvs => obtain ⟨xs, h, e1, q⟩ := r; exact ⟨xs, strip_some h (fun _ z => by cases z), e1, RpA.strp q⟩
  | dck kvs => obtain ⟨xs, h, e1, q⟩ := r; exact ⟨xs, strip_some h (fun _ z => by cases z), e1, RpA.strp q⟩
  | sti w ns => exact strip_some (show H a = some (SetO w a (fun i => ns.contains i) ns.length) from r) (fun _ z => by cases z)
  | _ => exact r.elim
variable {H0 : Hp} {Oc : Addr → Prop} {pins : Pn} {ow : OW} {σ : L2.St} {g : Gm}
theorem Reps.gro (R : Reps K H0 Oc pins ow σ H g) (nt : NoTab H0) (e : ExtN H H') : Reps K H0 Oc pins ow σ H' g := by
  have S : Reps K H0 Oc pins ow σ (Zst2.strip H) g := {
    len := R.len
    ex := fun a o h => strip_some (R.ex a o h) fun ps z => nt a ps (by rw [h, z])
    oc := R.oc
    fr := fun i a h => ⟨(R.fr i a h).1, by
      obtain ⟨d, hd⟩ := R.is i a h
      obtain ⟨b, h1, _, h3⟩ := R.own i d hd
      rw [h] at h1
      cases h1
      exact (RpO.strp h3).lv⟩
    inj := R.inj
    is := R.is
    val := fun i d h => let ⟨v, h1, h2⟩ := R.val i d h; ⟨v, h1, Rp.strp h2⟩
    own := fun i d h => let ⟨a, h1, h2, h3⟩ := R.own i d h; ⟨a, h1, h2, RpO.strp h3⟩
    pin := fun p h => Rp.strp (R.pin p h)
    slf := R.slf }
  exact S.grow (strip_ext e)
/-- what must stay may be less -/
theorem Reps.less {H1 : Hp} (R : Reps K H1 Oc pins ow σ H g) (e : Ex H0 H1) (oc : ∀ a, Oc a → Lv H0 a) : Reps K H0 Oc pins ow σ H g where
  len := R.len
  ex := e.trans R.ex
  oc := oc
  fr := fun i a h => ⟨Evl.fresh_back e (R.fr i a h).1, (R.fr i a h).2⟩
  inj := R.inj
  is := R.is
  val := R.val
  own := R.own
  pin := R.pin
  slf := R.slf
end
end Zk
namespace Zst2
open PySem L2 Zk LamX
open Evl (Ex)
theorem extn_strip (H : Hp) : ExtN H (strip H) := fun b o h n => strip_some h n
section
variable (K : PySem.W.Frag) (T : List (Addr × Str))
def ERT (te : TE) (t : DF) : Prop := ∀ g d, t g = some d → ∀ H0 Oc pins ow σ H, NoTab H0 → Reps K H0 Oc pins ow σ H g → Tabs T H → ∀ Q : VK, (∀ v H', ExtN H H' → Tabs T H' → Rp K (OO Oc ow) H' v d → Q v H') → te σ H Q
def ART (ta : TA) (t : DAF) : Prop := ∀ g ds, t g = some ds → ∀ H0 Oc pins ow σ H, NoTab H0 → Reps K H0 Oc pins ow σ H g → Tabs T H → ∀ Q : List V → Hp → Prop, (∀ vs H', ExtN H H' → Tabs T H' → RpA K (OO Oc ow) H' vs ds → Q vs H') → ta σ H Q
def TRT (tt : TT) (t : DTF) : Prop := ∀ g b, t g = some b → ∀ H0 Oc pins ow σ H, NoTab H0 → Reps K H0 Oc pins ow σ H g → Tabs T H → ∀ Q : Bool → Hp → Prop, (∀ H', ExtN H H' → Tabs T H' → Q b H') → tt σ H Q
def EOT (te : TE) (t : DF) : Prop := ∀ g d, t g = some d → ∀ H0 Oc pins ow σ H, NoTab H0 → Reps K H0 Oc pins ow σ H g → Tabs T H → ∀ Q : VK, (∀ p H', ExtN H H' → Tabs T H' → strip H p = none → RpO K (fun a => OO Oc ow a ∨ a = p) H' p d → Q (.ref p) H') → te σ H Q
def PostT (H0 : Hp) (Oc : Addr → Prop) (pins : Pn) (De : Ends) : Out → Prop
  | .nx g => ∀ ow σ H, Reps K H0 Oc pins ow σ H g → Tabs T H → De.nx σ H
  | .bk g => ∀ ow σ H, Reps K H0 Oc pins ow σ H g → Tabs T H → De.bk σ H
  | .ct g => ∀ ow σ H, Reps K H0 Oc pins ow σ H g → Tabs T H → De.ct σ H
  | .rt (.v d) => ∀ v H, Ex H0 H → Tabs T H → Rp K Oc H v d → De.rt v H
  | .rt (.o d) => ∀ p H, Ex H0 H → Tabs T H → H0 p = none → RpO K (fun a => Oc a ∨ a = p) H p d → De.rt (.ref p) H
def SRT (ts : TS) (t : SF) : Prop := ∀ g out, t g = some out → ∀ H0 Oc pins ow σ H, NoTab H0 → Reps K H0 Oc pins ow σ H g → Tabs T H → ∀ De : Ends, PostT K T H0 Oc pins De out → ts De σ H
def RetT (H0 : Hp) (Oc : Addr → Prop) (Q : VK) : Wd → Prop
  | .v d => ∀ v H, ExtN H0 H → Tabs T H → Rp K Oc H v d → Q v H
  | .o d => ∀ p H, ExtN H0 H → Tabs T H → strip H0 p = none → RpO K (fun a => Oc a ∨ a = p) H p d → Q (.ref p) H
def spT (n : Nat) (gf : PF) : Sp := fun vs H Q _ => ∃ (Oc : Addr → Prop) (ds : List D) (w : Wd), vs.length = n ∧ (∀ a, Oc a → Lv (strip H) a) ∧ RpA K Oc H vs ds ∧ gf ds = some w ∧ Tabs T H ∧ RetT K T H Oc Q w
end
section
variable {K : PySem.W.Frag} {T : List (Addr × Str)} {ta tb te : TE} {a b : DF} {ts tu : TS} {s u : SF} {tt tv : TT} {t t2 : DTF}
theorem art_of {ta : TA} {a : DAF} (h : AR K ta a) : ART K T ta a := fun g d e H0 Oc pins ow σ H nt R tb Q q => h g d e H0 Oc pins ow σ H R Q fun v H' e r => q v H' (ExtN.of e) (Tabs.ext tb e) r
theorem trt_of (h : TR K tt t) : TRT K T tt t := fun g d e H0 Oc pins ow σ H nt R tb Q q => h g d e H0 Oc pins ow σ H R Q fun H' e => q H' (ExtN.of e) (Tabs.ext tb e)
theorem ert_call {n : Nat} {gf : PF} {E : XK} {ta : TA} {a : DAF} (ha : ART K T ta a) : ERT K T (tCall (spT K T n gf) [] E ta) (dCall n gf a) := fun g d h H0 Oc pins ow σ H nt R tb Q q => by
  unfold dCall at h
  cases ea : a g with
  | none => rw [ea] at h; cases h
  | some ds =>
    rw [ea] at h
    simp only [Option.bind_some] at h
    split at h
    · rename_i hn
      cases ew : gf ds with
      | none => rw [ew] at h; cases h
      | some wd =>
        rw [ew] at h
        cases h
        refine ha g ds ea H0 Oc pins ow σ H nt R tb _ fun vs H1 e1 t1 r1 => ?_
        have oo := ((R.gro nt e1).gro nt (extn_strip H1)).oo
        refine ⟨OO Oc ow, ds, wd, by rw [List.append_nil, r1.len]; exact hn, oo, by rw [List.append_nil]; exact r1, ew, t1, ?_⟩
        cases wd with
        | v d => exact fun v H2 e2 t2 r2 => q v H2 (e1.trans e2) t2 r2
        | o d => exact fun p H2 e2 t2 hp r2 => q _ H2 (e1.trans e2) t2 (r2.toRp fun z => (oo p z).1 hp)
    · cases h
theorem strip_back {H H' : Hp} {p : Addr} (e : ExtN H H') (h : strip H' p = none) : strip H p = none := by
  cases q : strip H p with
  | none => rfl
  | some o =>
    obtain ⟨q1, q2⟩ := of_strip q
    rw [strip_some (e p o q1 q2) q2] at h
    cases h
theorem eot_call {n : Nat} {gf : PF} {E : XK} {ta : TA} {a : DAF} (ha : ART K T ta a) : EOT K T (tCall (spT K T n gf) [] E ta) (dCallO n gf a) := fun g d h H0 Oc pins ow σ H nt R tb Q q => by
  unfold dCallO at h
  cases ea : a g with
  | none => rw [ea] at h; cases h
  | some ds =>
    rw [ea] at h
    simp only [Option.bind_some] at h
    split at h
    · rename_i hn
      split at h
      · rename_i d' ew
        cases h
        refine ha g ds ea H0 Oc pins ow σ H nt R tb _ fun vs H1 e1 t1 r1 => ?_
        have oo := ((R.gro nt e1).gro nt (extn_strip H1)).oo
        exact ⟨OO Oc ow, ds, .o d, by rw [List.append_nil, r1.len]; exact hn, oo, by rw [List.append_nil]; exact r1, ew, t1, fun p H2 e2 t2 hp r2 => q p H2 (e1.trans e2) t2 (strip_back e1 hp) r2⟩
      · cases h
    · cases h
theorem trt_tru (ha : ERT K T ta a) : TRT K T (tTru K ta) (tDt truD a) := fun g d h H0 Oc pins ow σ H nt R tb Q q => by
  unfold tDt at h
  cases ea : a g with
  | none => rw [ea] at h; cases h
  | some x =>
    rw [ea] at h
    exact ha g x ea H0 Oc pins ow σ H nt R tb _ fun v H1 e1 t1 r1 => ⟨d, tru_rp r1 h, q H1 e1 t1⟩
theorem trt_not (ha : TRT K T tt t) : TRT K T (tNot tt) (dNotT t) := fun g d h H0 Oc pins ow σ H nt R tb Q q => by
  unfold dNotT at h
  cases ea : t g with
  | none => rw [ea] at h; cases h
  | some x =>
    rw [ea] at h
    cases h
    exact ha g x ea H0 Oc pins ow σ H nt R tb _ fun H1 e1 t1 => q H1 e1 t1
/-! ### statements -/
def noSti (g : Gm) : Bool := g.all fun o => match o with
  | some (.o (.sti _ _)) => false
  | _ => true
def sOf (t : SF) : SF := fun g => if noSti g = true then t g else none
open Classical in
theorem srt_of (h : SR K ts s) : SRT K T ts (sOf s) := fun g out e H0 Oc pins ow σ H nt R tb De P => by
  unfold sOf at e
  split at e
  · rename_i hns
    let H1 : Hp := fun a => if ∃ i, ow i = some a then none else H a
    have own : ∀ {a : Addr}, (∃ i, ow i = some a) → H1 a = none := fun {a} z => if_pos z
    have nown : ∀ {a : Addr}, ¬ (∃ i, ow i = some a) → H1 a = H a := fun {a} z => if_neg z
    have e01 : Ex H0 H1 := fun a o q => by
      rw [nown fun ⟨i, z⟩ => by rw [(R.fr i a z).1] at q; cases q]
      exact R.ex a o q
    have kind : ∀ {i : Nat} {c : Addr}, ow i = some c → (∀ ps, H c ≠ some (.tbl ps)) ∧ ∀ q, H c ≠ some (CodeO c q) := fun {i c} z => by
      obtain ⟨d, hd⟩ := R.is i c z
      obtain ⟨b, h1, _, h3⟩ := R.own i d hd
      rw [z] at h1
      cases h1
      have hm : (some (Wd.o d) : Option Wd) ∈ g := List.mem_of_getElem? hd
      have hb := List.all_eq_true.mp hns _ hm
      cases d with
      | lst ds => obtain ⟨xs, q, _⟩ := h3; exact ⟨fun ps z => (by rw [q] at z; cases z), fun w z => (by rw [q] at z; cases z)⟩
      | ins C gs => obtain ⟨dx, fs, q, _⟩ := h3; exact ⟨fun ps z => (by rw [q] at z; cases z), fun w z => (by rw [q] at z; cases z)⟩
      | dct kvs => obtain ⟨xs, q, _⟩ := h3; exact ⟨fun ps z => (by rw [q] at z; cases z), fun w z => (by rw [q] at z; cases z)⟩
      | dck kvs => obtain ⟨xs, q, _⟩ := h3; exact ⟨fun ps z => (by rw [q] at z; cases z), fun w z => (by rw [q] at z; cases z)⟩
      | sti w ns => cases hb
      | _ => exact h3.elim
    have R1 : Reps K H1 Oc pins ow σ H g := {
      len := R.len
      ex := fun a o q => by
        by_cases z : ∃ i, ow i = some a
        · rw [own z] at q; cases q
        · rw [nown z] at q; exact q
      oc := fun a z => (R.oc a z).ex e01
      fr := fun i a z => ⟨own ⟨i, z⟩, (R.fr i a z).2⟩
      inj := R.inj
      is := R.is
      val := R.val
      own := R.own
      pin := R.pin
      slf := R.slf }
    have tb1 : Tabs T H1 := fun p hp => by
      obtain ⟨ps, h1, h2, h3⟩ := tb p hp
      refine ⟨ps, by rw [nown fun ⟨i, z⟩ => (kind z).1 ps h1]; exact h1, h2, fun pos cv hc => ?_⟩
      obtain ⟨c, e1, e2⟩ := h3 pos cv hc
      exact ⟨c, e1, by rw [nown fun ⟨i, z⟩ => (kind z).2 _ e2]; exact e2⟩
    refine h g out e H1 Oc pins ow σ H R1 De ?_
    cases out with
    | nx g' => exact fun ow' σ' H' R' => P ow' σ' H' (R'.less e01 R.oc) (Tabs.ext tb1 R'.ex)
    | bk g' => exact fun ow' σ' H' R' => P ow' σ' H' (R'.less e01 R.oc) (Tabs.ext tb1 R'.ex)
    | ct g' => exact fun ow' σ' H' R' => P ow' σ' H' (R'.less e01 R.oc) (Tabs.ext tb1 R'.ex)
    | rt w =>
      cases w with
      | v d => exact fun v H' e r => P v H' (e01.trans e) (Tabs.ext tb1 e) r
      | o d => exact fun p H' e hp r => P p H' (e01.trans e) (Tabs.ext tb1 e) (Evl.fresh_back e01 hp) r
  · cases e
theorem srt_seq (h1 : SRT K T ts s) (h2 : SRT K T tu u) : SRT K T (tSeq ts tu) (sSeq s u) := fun g out h H0 Oc pins ow σ H nt R tb De P => by
  unfold sSeq at h
  cases e1 : s g with
  | none => rw [e1] at h; cases h
  | some o =>
    rw [e1] at h
    simp only [Option.bind_some] at h
    refine h1 g o e1 H0 Oc pins ow σ H nt R tb _ ?_
    cases o with
    | nx g1 => exact fun ow' σ' H' R' t' => h2 g1 out h H0 Oc pins ow' σ' H' nt R' t' De P
    | bk g1 => cases h; exact P
    | ct g1 => cases h; exact P
    | rt w =>
      cases h
      cases w with
      | v d => exact P
      | o d => exact P
theorem srt_if (ht : TRT K T tt t) (h1 : SRT K T ts s) (h2 : SRT K T tu u) : SRT K T (tIfS tt ts tu) (sIf t s u) := fun g out h H0 Oc pins ow σ H nt R tb De P => by
  unfold sIf at h
  cases ea : t g with
  | none => rw [ea] at h; cases h
  | some b =>
    rw [ea] at h
    simp only [Option.bind_some] at h
    refine ht g b ea H0 Oc pins ow σ H nt R tb _ fun H1 e1 t1 => ?_
    cases b with
    | true =>
      rw [if_pos rfl] at h ⊢
      exact h1 g out h H0 Oc pins ow σ H1 nt (R.gro nt e1) t1 De P
    | false =>
      rw [if_neg Bool.false_ne_true] at h ⊢
      exact h2 g out h H0 Oc pins ow σ H1 nt (R.gro nt e1) t1 De P
open Classical in
theorem srt_asgO {i : Nat} (ha : EOT K T te a) : SRT K T (tAsg te (gName i)) (sAsgO a i) := fun g out h H0 Oc pins ow σ H nt R tb De P => by
  unfold sAsgO at h
  cases ea : a g with
  | none => rw [ea] at h; cases h
  | some d =>
    rw [ea] at h
    simp only [Option.bind_some] at h
    split at h
    · rename_i hi
      cases h
      refine ha g d ea H0 Oc pins ow σ H nt R tb _ fun p H1 e1 t1 hp r1 => ?_
      have eb : ExtN H (fun a => if a = p then none else H1 a) := fun b o q n => by
        show (if b = p then none else H1 b) = some o
        rw [if_neg fun z => by rw [← z, strip_some q n] at hp; cases hp]
        exact e1 b o q n
      have R2 := R.gro nt eb
      exact P _ _ H1 (R2.setO hi (if_pos rfl) (fun a o q => by
        have q : (if a = p then none else H1 a) = some o := q
        by_cases z : a = p
        · rw [if_pos z] at q; cases q
        · rw [if_neg z] at q; exact q) r1) t1
    · cases h
theorem srt_ret (ha : ERT K T te a) : SRT K T (tRet te) (sRet a) := fun g out h H0 Oc pins ow σ H nt R tb De P => by
  unfold sRet at h
  cases ea : a g with
  | none => rw [ea] at h; cases h
  | some d =>
    rw [ea] at h
    cases h
    exact ha g d ea H0 Oc pins ow σ H nt R tb _ fun v H1 e1 t1 r1 => P v H1 (R.gro nt e1).ex t1 (r1.kp (kp_oc Oc ow H1))
end
end Zst2
end

section
set_option Elab.async false
set_option linter.all false
set_option maxRecDepth 100000
set_option autoImplicit false
set_option maxHeartbeats 2000000
/-! sorted(range(n), key=lambda x: (i, j)), as data; a def whose code object's table may grow. -/
namespace Zst2
open PySem L2 Zk LamX Zsl PySem.W PyProof.Rows
open Evl (Ex)
/-- the key of i: a pair of ints -/
def keyAt (j : Nat) (b : DF) (g : Gm) (i : Int) : Option D := b (g.set j (some (.v (.int i))))
def kxy : Option D → Int × Int
  | some (.tup [.int x, .int y]) => (x, y)
  | _ => (0, 0)
def ok2 : Option D → Bool
  | some (.tup [.int _, .int _]) => true
  | _ => false
theorem ok2_eq {o : Option D} (h : ok2 o = true) : o = some (.tup [.int (kxy o).1, .int (kxy o).2]) := by
  unfold ok2 at h
  split at h
  · rfl
  · cases h
def leP (f : Int → Int × Int) (p q : Int) : Bool := decide ((f p).1 < (f q).1 ∨ ((f p).1 = (f q).1 ∧ (f p).2 ≤ (f q).2))
def dSortK (j : Nat) (a b : DF) : DF := fun g => (a g).bind fun d => match d with
  | .int n => if (decide (0 ≤ n) && decide (n ≤ 100000) && okSlot g j && (intsTo n).all fun i => ok2 (keyAt j b g i)) = true then some (.lst (((intsTo n).mergeSort (leP fun i => kxy (keyAt j b g i))).map D.int)) else none
  | _ => none
section
variable {K : PySem.W.Frag} {T : List (Addr × Str)} {ta tb : TE} {a b : DF}
theorem rpA_ints {O : Addr → Prop} {H : Hp} : ∀ is : List Int, RpA K O H (is.map V.int) (is.map D.int)
  | [] => .nil
  | i :: is => .cons (.int i) (rpA_ints is)
theorem eot_sortK {j : Nat} (ha : ER K ta a) (hb : ER K tb b) : EOT K T (tSortKR K T j ta tb) (dSortK j a b) := fun g d h H0 Oc pins ow σ H nt R tb0 Q q => by
  unfold dSortK at h
  cases ea : a g with
  | none => rw [ea] at h; cases h
  | some x =>
    rw [ea] at h
    simp only [Option.bind_some] at h
    split at h
    · rename_i n
      split at h
      · rename_i hc
        cases h
        rw [Bool.and_eq_true, Bool.and_eq_true, Bool.and_eq_true, decide_eq_true_eq, decide_eq_true_eq, List.all_eq_true] at hc
        obtain ⟨⟨⟨h0, h1⟩, hj⟩, hk⟩ := hc
        refine ha g _ ea H0 Oc pins ow σ H R _ fun v H1 e1 r1 => ?_
        cases r1
        refine ⟨n, rfl, .of_le (Int.le_refl 0) (by omega) (by omega) h0, Tabs.ext tb0 e1, fun H2 e2 t2 => ?_⟩
        refine ⟨fun i => .tuple [.int (kxy (keyAt j b g i)).1, .int (kxy (keyAt j b g i)).2], AllAlike.of fun _ _ => by simp [alike, alikeAll], Sortable.tuples fun _ => ⟨_, _, rfl⟩, fun i _ => by simp [PyData.depth, PyData.depthAll], fun i hi H3 e3 => ?_, fun p H4 e4 hp => ?_⟩
        · have R3 := (((R.grow e1).gro nt e2).grow e3).setV hj (.int i)
          exact hb _ _ (ok2_eq (hk i hi)) H0 Oc pins _ _ H3 R3 _ fun v H4 e4 r4 => ⟨e4, dp_of r4 rfl⟩
        · have en : ExtN H H4 := ((ExtN.of e1).trans e2).trans (ExtN.of e4)
          have e5 : Ex H4 (upd H4 p (.lst (((intsTo n).mergeSort (dataLe false fun i => .tuple [.int (kxy (keyAt j b g i)).1, .int (kxy (keyAt j b g i)).2])).map V.int))) := Evl.Ex.new hp
          refine q p _ (en.trans (ExtN.of e5)) (Tabs.ext (Tabs.ext t2 e4) e5) (strip_back en ?_) ⟨_, upd_same, ?_⟩
          · unfold strip
            rw [hp]
          · rw [dataLe_ii (fun i => (kxy (keyAt j b g i)).1) (fun i => (kxy (keyAt j b g i)).2)]
            exact rpA_ints _
      · cases h
    · cases h
end
/-! ### defs -/
section
open PySem.Spec
variable {P : Program} {w : World} {K : PySem.W.Frag} {mg : Str → Option Value} {base : Heap}
/-- a def by its reading, told of its code object -/
theorem ok_code {x qual : Str} {st : Stmt} {f : Addr} {fd : FuncData} {N ps : List Str} {k : Nat} {sp : Sp} (F : Fun K x qual st f fd) (S : FnScope N ps (defScope st)) (len : ∀ vs H Q E, sp vs H Q E → vs.length = ps.length)
    (hb : ∀ (cdv : Value), fd.code = cdv → ∀ (A : Around) (outer : List Env) (s : Shared) (H : Hp) (vs : List V) (Q : VK) (E : XK), Room k (A.deeper (envOfC qual (defScope st) s.heap.objs.size f cdv)) → sp vs H Q E →
      ∃ t, PSs (cxOf CX0 P w K mg base N qual (defScope st) f cdv A outer s H E).nox (defBody st) t ∧ t { nx := fun _ H' => Q .non H', rt := Q } (start N vs) H) : FnOk P w K mg base CX0 (k + 1) f fd ps sp := by
  obtain ⟨_, _, _, _, _, _, cdv, _, _, rfl, l, c⟩ := F.ex
  exact fn_of l c S len fun A outer s H vs Q E r z => (hb cdv rfl A outer s H vs Q E r z).imp fun t y => ⟨y.1.nox, y.2⟩
theorem fnTO {T : List (Addr × Str)} {x qual : Str} {st : Stmt} {f : Addr} {fd : FuncData} {N ps : List Str} {k n m : Nat} {t : SF} (F : Fun K x qual st f fd) (S : FnScope N ps (defScope st)) (hn : n = ps.length) (hm : N.length = n + m)
    (hb : ∀ (cdv : Value), fd.code = cdv → ∀ (A : Around) (outer : List Env) (s : Shared) (H : Hp) (E : XK), Room k (A.deeper (envOfC qual (defScope st) s.heap.objs.size f cdv)) → ∃ ts, PSs (cxOf CX0 P w K mg base N qual (defScope st) f cdv A outer s H E).nox (defBody st) ts ∧ SRT K T ts t) :
    FnOk P w K mg base CX0 (k + 1) f fd ps (spT K T n (runG m t)) := by
  subst hn
  refine ok_code F S (fun vs H Q E h => ?_) (fun cdv hcd A outer s H vs Q E hr h => ?_)
  · obtain ⟨_, _, _, h, _⟩ := h
    exact h
  · obtain ⟨Oc, ds, wd, hl, oc, r, hgf, tb, q⟩ := h
    obtain ⟨ts, hts, hs⟩ := hb cdv hcd A outer s H E hr
    refine ⟨ts, hts, ?_⟩
    have eS : Ex (strip H) H := fun a o h => (of_strip h).1
    have R := (reps_start (fun a z => (oc a z).ex eS) N r (m := m) (by rw [hl]; exact hm)).less eS oc
    unfold runG at hgf
    split at hgf
    · rename_i w' e
      cases hgf
      refine hs _ _ e (strip H) Oc _ noOw _ H (noTab_strip H) R tb _ ?_
      cases wd with
      | v d => exact fun v H' e t r => q v H' (ext_strip e) t r
      | o d => exact fun p H' e t hp r => q p H' (ext_strip e) t hp r
    · rename_i g e
      cases hgf
      exact hs _ _ e (strip H) Oc _ noOw _ H (noTab_strip H) R tb _ fun ow σ H' R' t' => q .non H' (ext_strip R'.ex) t' .non
    · cases hgf
end
end Zst2
end

section
set_option Elab.async false
set_option linter.all false
set_option maxRecDepth 100000
set_option autoImplicit false
set_option maxHeartbeats 2000000
/-! Comprehensions and loops where tables may grow. -/
namespace Zst2
open PySem L2 Zk LamX
open Evl (Ex)
section
variable {K : PySem.W.Frag} {T : List (Addr × Str)} {ta tb te : TE} {a b : DF} {ts tu : TS} {s u : SF} {tt : TT} {t : DTF}
theorem ert_of_eot (h : EOT K T te a) : ERT K T te a := fun g d e H0 Oc pins ow σ H nt R tb0 Q q => h g d e H0 Oc pins ow σ H nt R tb0 Q fun p H' e' t' hp r => q _ H' e' t' (by
  have oo := (R.gro nt (extn_strip H)).oo
  exact r.toRp fun z => (oo p z).1 hp)
variable (K T) in
def IRT (wi : TI) (it : DIF) : Prop := ∀ g ds, it g = some ds → ∀ H0 Oc pins ow σ H, NoTab H0 → Reps K H0 Oc pins ow σ H g → Tabs T H → ∀ R : It → Hp → Prop,
  (∀ J H' ps, ExtN H H' → Tabs T H' → (∀ p ∈ ps, Rp K (OO Oc ow) H' p.1 p.2) → Wk K J ds ps → R J H') → wi σ H R
theorem irt_of {wi : TI} {it : DIF} (h : IR K wi it) : IRT K T wi it := fun g ds e H0 Oc pins ow σ H nt R tb Q q => h g ds e H0 Oc pins ow σ H R Q fun J H' ps e' hp hw => q J H' ps (ExtN.of e') (Tabs.ext tb e') hp hw
def dItemsT (a : DF) : DIF := fun g => match a g with
  | some (.lst ds) => some ds
  | _ => none
theorem irt_lst (ha : ERT K T te a) : IRT K T (iSeq K te) (dItemsT a) := fun g ds h H0 Oc pins ow σ H nt R tb Q q => by
  unfold dItemsT at h
  split at h
  · rename_i ds' ea
    cases h
    refine .inl (ha g _ ea H0 Oc pins ow σ H nt R tb _ fun v H1 e1 t1 r1 => ?_)
    have r0 := r1
    cases r1 with
    | @lst a xs _ n e r => exact ⟨a, rfl, ⟨_, .of e⟩, q _ H1 _ e1 t1 (fun p hp => by rw [List.mem_singleton.mp hp]; exact r0) (wk_list rfl rfl fun O H r => by cases r with | lst n e r => exact ⟨_, .of e, r⟩)⟩
  · cases h
theorem srt_for {wi : TI} {it : DIF} {tg : TG} {f : DGF} (hi : IRT K T wi it) (hg : GR' K tg f) (hs : SRT K T ts s) : SRT K T (tFor wi tg ts) (sFor it f s) := fun g out h H0 Oc pins ow σ H nt R tb De P => by
  unfold sFor at h
  cases ei : it g with
  | none => rw [ei] at h; cases h
  | some ds =>
    rw [ei] at h
    simp only [Option.bind_some] at h
    refine hi g ds ei H0 Oc pins ow σ H nt R tb _ fun J H1 ps e1 t1 hps hw => ?_
    let Pv : Nat → L2.St → Hp → Prop := fun i σ' H' => ∃ ow' g', Reps K H0 Oc (pins.more ps) ow' σ' H' g' ∧ Tabs T H' ∧ loopD f s (ds.drop i) g' = some out
    refine ⟨fun i m σ' H' => m = ds.length - i ∧ i ≤ ds.length ∧ Pv i σ' H', ⟨ds.length, rfl, Nat.zero_le _, ⟨ow, g, (R.gro nt e1).morePins hps, t1, h⟩⟩, ?_⟩
    rintro i m σ' H' ⟨rfl, hi, ⟨ow', g', R', t', hl⟩⟩
    have kps : ∀ p ∈ ps, Rp K (OO Oc ow') H' p.1 p.2 := fun p hp => R'.pin p (List.mem_append_left _ hp)
    by_cases hlt : i < ds.length
    · refine .inr ⟨hw.go _ i H' hlt kps trivial, Pv (i + 1), fun σ2 H2 p => ⟨ds.length - (i + 1), by omega, rfl, hlt, p⟩, fun x H2 y => ?_⟩
      have hd : ds[i]? = some ds[i] := List.getElem?_eq_getElem hlt
      obtain ⟨e2, rx⟩ := hw.yld _ i H' x H2 ds[i] R'.oo kps y hd
      have t2 := Tabs.ext t' e2
      rw [show ds.drop i = ds[i] :: ds.drop (i + 1) from List.drop_eq_getElem_cons hlt] at hl
      unfold loopD at hl
      cases e3 : f ds[i] g' with
      | none => rw [e3] at hl; cases hl
      | some g1 =>
        rw [e3] at hl
        simp only [Option.bind_some] at hl
        cases e4 : s g1 with
        | none => rw [e4] at hl; cases hl
        | some o =>
          rw [e4] at hl
          simp only [Option.bind_some] at hl
          refine hg ds[i] g' g1 e3 H0 Oc _ ow' σ' H2 x (R'.grow e2) rx _ fun ow2 σ2 _ R2 => ?_
          refine hs g1 o e4 H0 Oc _ ow2 σ2 H2 nt R2 t2 _ ?_
          cases o with
          | nx g2 => exact fun ow3 σ3 H3 R3 t3 => ⟨ow3, g2, R3, t3, hl⟩
          | ct g2 => exact fun ow3 σ3 H3 R3 t3 => ⟨ow3, g2, R3, t3, hl⟩
          | bk g2 =>
            cases hl
            exact fun ow3 σ3 H3 R3 t3 => P ow3 σ3 H3 R3.lessPins t3
          | rt w =>
            cases hl
            cases w with
            | v d => exact P
            | o d => exact P
    · have e : i = ds.length := by omega
      subst e
      refine .inl ⟨hw.stop _ H' kps trivial, ?_⟩
      rw [List.drop_length] at hl
      cases hl
      exact P ow' σ' H' R'.lessPins t'
end
end Zst2
end

section
set_option Elab.async false
set_option linter.all false
set_option maxRecDepth 100000
set_option autoImplicit false
set_option maxHeartbeats 2000000
/-! A def that returns (x, list of its own); x, y = f(..). -/
namespace Zw
open PyProof.Rows hiding St
open PySem PySem.Spec L2 Zk
open Evl (Ex)
/-- a pair comes back: a value, and a new list that nothing else knows -/
def RetT (K : PySem.W.Frag) (H0 : Hp) (Oc : Addr → Prop) (Q : VK) (x y : D) : Prop := ∀ p a u H, Ex H0 H → H0 a = none → H p = some (.tup [u, .ref a]) → Rp K (fun b => Oc b ∨ b = a) H u x → RpO K (fun b => Oc b ∨ b = a) H a y → Q (.ref p) H
abbrev TF : Type := List D → Option (D × D)
def spT (K : PySem.W.Frag) (n : Nat) (gf : TF) : Sp := fun vs H Q _ => ∃ (Oc : Addr → Prop) (ds : List D) (x y : D), vs.length = n ∧ (∀ a, Oc a → Lv H a) ∧ RpA K Oc H vs ds ∧ gf ds = some (x, y) ∧ RetT K H Oc Q x y
/-- what a body that ends so does -/
abbrev SF2 : Type := Gm → Option (D × D)
section
variable {K : PySem.W.Frag} {ts tu : TS} {s : SF} {u : SF2}
end
section
variable {K : PySem.W.Frag}
end
section
variable {P : Program} {w : World} {K : PySem.W.Frag} {mg : Str → Option Value} {base : Heap}
end
end Zw
end

section
set_option Elab.async false
set_option linter.all false
set_option maxRecDepth 100000
set_option autoImplicit false
set_option maxHeartbeats 2000000
/-! Texts: str(n), int(text), methods, slices, in; *xs, y = a list; enumerate(xs, start=k). -/
namespace L2
open PySem PySem.Spec PyProof.Rows

/-! ### a starred target -/
section
variable {X : Cx} {pos p' : Pos}
theorem Vals.app {xs ys : List V} {us ws : List Value} (r : Vals xs us) (q : Vals ys ws) : Vals (xs ++ ys) (us ++ ws) := by
  induction r with
  | nil => exact q
  | cons h _ ih => exact .cons h ih
end

/-! ### enumerate(a list, start=k) -/
end L2
namespace Zj
open PyProof.Rows hiding St
open PySem PySem.Spec L2 Zk
open Evl (Ex)
section
variable {K : PySem.W.Frag}
/-! ### str(n), int(text) -/
/-! ### methods of texts -/
/-! ### in, order, slices -/
def slSD : D → Option Int → Option Int → Option D
  | .str s, lo, hi => if s.length ≤ 100000 then some (.str (Txt.slice s lo hi)) else none
  | _, _, _ => none
/-! ### f-strings -/
inductive JR (K : PySem.W.Frag) : List TE → List DF → Prop where
  | nil : JR K [] []
  | cons {t : TE} {a : DF} {ts : List TE} {as : List DF} (h : ER K t a) (r : JR K ts as) : JR K (t :: ts) (a :: as)
/-! ### a starred target -/
/-! ### enumerate(a list, start=k) -/
end
/-! ### a def that returns (list of its own, value): the data is (value, list) all the same -/
/-- a pair comes back: a new list that nothing else knows, and a value -/
def RetT (K : PySem.W.Frag) (H0 : Hp) (Oc : Addr → Prop) (Q : VK) (x y : D) : Prop := ∀ p a u H, Ex H0 H → H0 a = none → H p = some (.tup [.ref a, u]) → Rp K (fun b => Oc b ∨ b = a) H u x → RpO K (fun b => Oc b ∨ b = a) H a y → Q (.ref p) H
abbrev TF : Type := List D → Option (D × D)
def spT (K : PySem.W.Frag) (n : Nat) (gf : TF) : Sp := fun vs H Q _ => ∃ (Oc : Addr → Prop) (ds : List D) (x y : D), vs.length = n ∧ (∀ a, Oc a → Lv H a) ∧ RpA K Oc H vs ds ∧ gf ds = some (x, y) ∧ RetT K H Oc Q x y
/-- what a body that ends so does -/
abbrev SF2 : Type := Gm → Option (D × D)
section
variable {K : PySem.W.Frag} {ts tu : TS} {s : SF} {u : SF2}
end
section
variable {P : Program} {w : World} {K : PySem.W.Frag} {mg : Str → Option Value} {base : Heap}
end
end Zj
end

section
set_option Elab.async false
set_option linter.all false
set_option maxRecDepth 100000
set_option autoImplicit false
set_option maxHeartbeats 2000000
/-! A text times a number; suites of a try that go on behind it. -/
namespace L2
open PySem PySem.Spec PyProof.Rows
end L2
namespace Zj
open PyProof.Rows hiding St
open PySem PySem.Spec L2 Zk
open Evl (Ex)
section
variable {K : PySem.W.Frag}
end
/-! ### try: a suite that may go on -/
section
variable {K : PySem.W.Frag} {i : Nat} {c : Value} {x : Zr.XF} {s : SF} {hd : Addr → Addr → SF} {tb : WX → TS} {tsD : Addr → Addr → TS} {Wout : WX} {D : Addr} {g : Gm}
end
end Zj
/-! ### defs called within a suite that catches (they do not raise) -/
namespace L2W
open PySem PySem.Spec PyProof.Rows L2 L2H
abbrev St := L2.St
/-- p's object is the exception that is handled -/
def Hot0 (A : Around) (p : Addr × Obj) : Prop := A.handled = some (.ref p.1) ∧ ∃ vs : Array Value, p.2.data = .fields vs
structure FnW (P : Program) (w : World) (K : PySem.W.Frag) (mg : Str → Option Value) (base : Heap) (CX : CXT) (k : Nat) (f : Addr) (fd : FuncData) (ps : List Str) (sp : Sp) : Prop where
  len : ∀ vs H Q E, sp vs H Q E → vs.length = ps.length
  run : ∀ (A : Around) (outer : List Env) (s : Shared) (H : Hp) (args : Args) (us : List Value) (vs : List V) (Q : VK) (E : XK) (p : Addr × Obj), RoomH k A → Hot0 A p → PinOk outer H s p → Env0 P w K mg base A outer s H → BindsTo s fd args (ps.zip us) → Vals vs us → sp vs H Q E →
    codeAny (model P w) A (.call (.ref f) args) (CR CX outer P w H s Q E) s
section
variable {X : Cx} {CX : CXT} {k : Nat} {f C : Addr} {fd : FuncData} {ps : List Str} {sp : Sp} {E : XK} {x m : Str} {q pos apos : Pos} {e o : Expr} {es : List Expr} {ta : TE} {t : TA}
end
end L2W
namespace Zj
open PyProof.Rows hiding St
open PySem PySem.Spec L2 L2H L2W Zk
open Evl (Ex)
section
variable {P : Program} {w : World} {K : PySem.W.Frag} {mg : Str → Option Value} {base : Heap}
end
end Zj
end

section
set_option Elab.async false
set_option linter.all false
set_option maxRecDepth 100000
set_option autoImplicit false
set_option maxHeartbeats 2000000
/-! match with `_` among the captures; list.index. -/
namespace Zm
open PySem L2 Zk PyProof.Rows
open Evl (Ex)
section
variable {X : Cx} {pins : List (Addr × Obj)} {σ : L2.St} {H : Hp} {s : Shared}
/-- captures, or `_` -/
inductive CapsW (X : Cx) : List Pattern → List (Option Nat) → Prop
  | nil : CapsW X [] []
  | cons {x : Str} {p : Pos} {j : Nat} {ps : List Pattern} {js : List (Option Nat)} (hj : X.N[j]? = some x) (hl : X.env.scope.names.lookup x = some .local) (h : CapsW X ps js) : CapsW X (.MatchAs none (some x) p :: ps) (some j :: js)
  | wild {p : Pos} {ps : List Pattern} {js : List (Option Nat)} (h : CapsW X ps js) : CapsW X (.MatchAs none none p :: ps) (none :: js)
theorem CapsW.len : ∀ {ps : List Pattern} {js : List (Option Nat)}, CapsW X ps js → ps.length = js.length
  | _, _, .nil => rfl
  | _, _, .cons _ _ h => congrArg (· + 1) h.len
  | _, _, .wild h => congrArg (· + 1) h.len
inductive PMsW (X : Cx) : List MatchCase → List (Str × List (Option Nat) × TS) → Prop
  | nil : PMsW X [] []
  | cons {tag : Str} {kk : Nat} {pp p1 pos : Pos} {caps : List Pattern} {js : List (Option Nat)} {body : List Stmt} {ts : TS} {rest : List MatchCase} {cs : List (Str × List (Option Nat) × TS)}
    (ck : CapsW X caps js) (hb : PSs X body ts) (h : PMsW X rest cs) : PMsW X (⟨.MatchSequence (.MatchValue (.Constant (.str tag) kk pp) p1 :: caps) pos, none, body⟩ :: rest) ((tag, js, ts) :: cs)
end
/-! ### the same on data -/
section
variable {K : PySem.W.Frag}
abbrev CseW := Str × List (Option Nat) × SF
inductive SRsW (K : PySem.W.Frag) : List (Str × List (Option Nat) × TS) → List CseW → Prop
  | nil : SRsW K [] []
  | cons {tag : Str} {js : List (Option Nat)} {ts : TS} {s : SF} {cs : List (Str × List (Option Nat) × TS)} {ds : List CseW} (h : SR K ts s) (r : SRsW K cs ds) : SRsW K ((tag, js, ts) :: cs) ((tag, js, s) :: ds)
end
end Zm
namespace Zk2
open PySem Zk L2 PyProof.Rows
open Evl (Ex)
section
variable {X : Cx}
end
section
variable {K : PySem.W.Frag}
end
end Zk2
end

section
set_option Elab.async false
set_option linter.all false
set_option maxRecDepth 100000
set_option autoImplicit false
set_option maxHeartbeats 2000000
/-! Objects of one's own that change: fields read, methods that change them. -/
namespace Zq5
open PySem L2 Zk PyProof.Rows
open Evl (Ex)
section
variable {K : PySem.W.Frag}
/-! step by step -/
/-- a new list of plain data may be made of what is owned -/
def peekN (a : DF) : DF := fun g => match a (frzAll g) with
  | some (.lst ds) => if Zg.shDs ds then some (.lst ds) else none
  | _ => none
theorem er_peekN {te : TE} {a : DF} (ha : EO K te a) : ER K te (peekN a) := fun g d h H0 Oc pins ow σ H R Q q => by
  unfold peekN at h
  split at h
  · rename_i ds e
    split at h
    · rename_i f
      cases h
      refine ha _ _ e H0 Oc _ noOw σ H R.frzAll Q fun p H' e' hp r => q _ H' e' ?_
      obtain ⟨xs, h1, h2⟩ := r
      exact .lst (R.new hp) h1 (Zg.rps_sh (R.grow e').oo h2 f)
    · cases h
  · cases h
/-! ### an object handed over for good to a def that may change it; it answers plain data -/
end
end Zq5
end

section
set_option Elab.async false
set_option linter.all false
set_option maxRecDepth 100000
set_option maxHeartbeats 4000000
namespace Y
open PySem L2 Zk
abbrev top (i : Nat) : Stmt := PySem.Challenge.pw_pairwarden_k54_whole_best_lot.main.body.getD i (.Pass ⟨0, 0, 0, 0⟩)
abbrev s_are_different : Stmt := top 1
abbrev N_are_different : List Str := ["numbers", "limit", "number"]
abbrev s_Pool_init : Stmt := inClass (top 6) 0
abbrev N_Pool_init : List Str := ["self", "caps", "holders"]
abbrev s_ordered_holders : Stmt := top 7
abbrev N_ordered_holders : List Str := ["holders", "seats", "piece", "row"]
abbrev s_pair_room : Stmt := top 8
abbrev N_pair_room : List Str := ["pool", "pair", "first", "second"]
abbrev s_held_pairs : Stmt := top 9
abbrev N_held_pairs : List Str := ["pool", "piece"]
abbrev s_pairs_with_room : Stmt := top 10
abbrev N_pairs_with_room : List Str := ["pool", "seats", "roomy", "seat", "at", "first", "second"]
abbrev s_find_walk : Stmt := top 12
abbrev N_find_walk : List Str := ["pool", "dealing", "pieces", "firsts", "waiting", "seated", "takers", "at", "piece", "pair", "leaving"]
abbrev s_take_walk : Stmt := top 13
abbrev N_take_walk : List Str := ["dealing", "walk", "after", "piece", "pair"]
abbrev s_pieces_by_pair : Stmt := top 14
abbrev N_pieces_by_pair : List Str := ["dealing", "seated", "piece", "pair"]
abbrev s_walk_to : Stmt := top 15
abbrev N_walk_to : List Str := ["dealing", "takers", "pair", "steps", "piece"]
abbrev s_best_lot : Stmt := top 17
abbrev N_best_lot : List Str := ["pool", "worths", "dealing", "piece", "walk", "other", "pair"]
abbrev s_law_cell : Stmt := top 19
abbrev N_law_cell : List Str := ["script", "k"]
abbrev s_law_draws : Stmt := top 20
abbrev N_law_draws : List Str := ["cell", "sizes", "left", "digits", "drawn", "k", "size", "mixed"]
abbrev s_law_bits : Stmt := top 21
abbrev N_law_bits : List Str := ["mask", "count", "k"]
abbrev s_law_pairs : Stmt := top 22
abbrev N_law_pairs : List Str := ["seats", "pairs", "low", "high"]
abbrev s_law_pool : Stmt := top 23
abbrev N_law_pool : List Str := ["cell", "most", "drawn", "seats", "caps", "pairs", "holders", "p", "held", "pair", "k"]
abbrev s_law_lots : Stmt := top 24
abbrev N_law_lots : List Str := ["count", "lots", "p", "lot"]
abbrev s_law_places : Stmt := top 25
abbrev N_law_places : List Str := ["caps", "holders", "lot", "total", "pair", "p"]
abbrev s_law_is_integer : Stmt := top 26
abbrev N_law_is_integer : List Str := ["actual"]
abbrev s_law_apart : Stmt := top 27
abbrev N_law_apart : List Str := ["cell", "drawn", "seats", "pairs", "caps", "holders", "p", "k"]
abbrev s_law_worths : Stmt := top 28
abbrev N_law_worths : List Str := ["script", "k", "count", "drawn", "great", "menu", "p"]
abbrev s_law_order : Stmt := top 29
abbrev N_law_order : List Str := ["worths", "left", "order", "k", "best", "p"]
abbrev s_law_dealable : Stmt := top 30
abbrev N_law_dealable : List Str := ["caps", "holders", "dealable", "lot", "mask", "fine", "p"]
abbrev s_law_collected : Stmt := top 31
abbrev N_law_collected : List Str := ["worths", "dealable", "mask", "p"]
abbrev s_law_collected_apart : Stmt := top 32
abbrev N_law_collected_apart : List Str := ["caps", "holders", "worths", "lot", "p", "alike", "q"]
abbrev s_law_is_best : Stmt := top 33
abbrev N_law_is_best : List Str := ["worths", "best", "lot", "worth", "p"]
abbrev s_law_joined : Stmt := top 34
abbrev N_law_joined : List Str := ["first", "second", "caps", "shift", "holders", "owners", "p", "k"]
abbrev s_law_collected_in_groups : Stmt := top 35
abbrev N_law_collected_in_groups : List Str := ["groups", "owners", "worths", "lot", "g", "mine", "kept", "q"]
abbrev s_law_is_right : Stmt := top 36
abbrev N_law_is_right : List Str := ["caps", "holders", "asked", "pool", "one", "handed", "actual", "row", "p"]
abbrev s_law : Stmt := top 37
abbrev N_law : List Str := ["script", "caps", "holders", "worths", "turned", "dealable", "best", "lots", "k", "groups", "owners", "other"]
/-- the classes -/
structure Cs where
  Pool : Addr
def t_are_different : SF :=
 (sSeq (sIf (dNotT (tDt truD (dN allD (aCons (dLc (dItems (dVar 0)) (dName 2) dYes (dChain leD ltD (dC (.int 0)) (dVar 2) (dVar 1)) [2]) aNil))))
 (sRet (dC (.bl false)))
 sNext)
 (sRet (d2 eqD (d1 lenSetD (dVar 0)) (dN lenD (aCons (dVar 0) aNil)))))
def g_are_different : PF := runG 1 (t_are_different)
def t_ordered_holders : SF :=
 (sSeq (sFor (dEnum (aCons (dVar 0) aNil)) (dgTup 2 (dgCons (dName 2) (dgCons (dName 3) dgNil)))
 (sIf (dNotT (tDt truD (dCall 2 (g_are_different) (aCons (dVar 3) (aCons (dVar 1) aNil)))))
 sNever
 sNext))
 (sRet (dN tupleD (aCons (dLc (dItems (dVar 0)) (dName 3) dYes (dN tupleD (aCons (dN sortedD (aCons (dVar 3) aNil)) aNil)) [3]) aNil))))
def g_ordered_holders : PF := runG 2 (t_ordered_holders)
def t_Pool_init (c : Cs) : SF :=
 (sSeq (sIf (dOrT (tDt blD (d2 eqD (dN lenD (aCons (dVar 1) aNil)) (dC (.int 0)))) (tDt blD (d2 ltD (dN minD (aCons (dVar 1) aNil)) (dC (.int 0)))))
 sNever
 sNext)
 (sSeq (sFldD c.Pool 0 "caps" (dN tupleD (aCons (dVar 1) aNil)))
 (sSeq (sFldD c.Pool 0 "holders" (dCall 2 (g_ordered_holders) (aCons (dVar 2) (aCons (dN lenD (aCons (dVar 1) aNil)) aNil))))
 (sSeq (sFldD c.Pool 0 "seats" (peekF (dN lenD (aCons (d1 (fldD c.Pool "caps") (dVar 0)) aNil))))
 (sFldD c.Pool 0 "pieces" (peekF (dN lenD (aCons (d1 (fldD c.Pool "holders") (dVar 0)) aNil))))))))
def g_Pool_init (c : Cs) : List D → Option (List (Str × D)) := Zk.runI c.Pool 0 (t_Pool_init c)
def t_pair_room (c : Cs) : SF :=
 (sSeq (sAsg (dVar 1) (dgTup 2 (dgCons (dName 2) (dgCons (dName 3) dgNil))))
 (sRet (dN minD (aCons (d2 ixD (d1 (fldD c.Pool "caps") (dVar 0)) (dVar 2)) (aCons (d2 ixD (d1 (fldD c.Pool "caps") (dVar 0)) (dVar 3)) aNil)))))
def g_pair_room (c : Cs) : PF := runG 2 (t_pair_room c)
def t_pairs_with_room (c : Cs) : SF :=
 (sSeq (sAsg (dLc (dItems (dVar 1)) (dName 3) (tDt blD (d2 gtD (d2 ixD (d1 (fldD c.Pool "caps") (dVar 0)) (dVar 3)) (dC (.int 0)))) (dVar 3) [3]) (dName 2))
 (sRetO (dLc2 (dEnum (aCons (dVar 2) aNil)) (dgTup 2 (dgCons (dName 4) (dgCons (dName 5) dgNil))) dYes (dItems (dSl (dVar 2) (oSome (d2 addD (dVar 4) (dC (.int 1)))) oNone)) (dName 6) dYes (dN mkTup (aCons (dVar 5) (aCons (dVar 6) aNil))) [4, 5, 6] [6])))
def g_pairs_with_room (c : Cs) : PF := runG 5 (t_pairs_with_room c)
def t_held_pairs (c : Cs) : SF :=
 (sRetO (dCallO 2 (g_pairs_with_room c) (aCons (dVar 0) (aCons (d2 ixD (d1 (fldD c.Pool "holders") (dVar 0)) (dVar 1)) aNil))))
def g_held_pairs (c : Cs) : PF := runG 0 (t_held_pairs c)
def t_pieces_by_pair : SF :=
 tSeats
def g_pieces_by_pair : PF := runG 3 (t_pieces_by_pair)
def t_walk_to : SF :=
 (sSeq (sAsgO (dN mkLst aNil) 3)
 (sSeq (sWhile (tDt blD (d2 isntD (dVar 2) (dC .non)))
 (sSeq (sAsg (dIxO 1 (dVar 2)) (dName 4))
 (sSeq (sApp 3 (dN mkTup (aCons (dVar 4) (aCons (dVar 2) aNil))))
 (sAsg (d2 ixD (dVar 0) (dVar 4)) (dName 2)))))
 (sFrz [3] (sRetO (d1 revD (dVar 3))))))
def g_walk_to : PF := runG 2 (t_walk_to)
def t_find_walk (c : Cs) : SF :=
 (sSeq (sAsg (dIf (tDt blD (d2 isD (dVar 2) (dC .non))) (d1 lrD (d1 (fldD c.Pool "pieces") (dVar 0))) (dVar 2)) (dName 3))
 (sSeq (sAsgO (dLc (dItems (dVar 3)) (dName 8) (tDt blD (d2 isD (d2 ixD (dVar 1) (dVar 8)) (dC .non))) (dVar 8) [8]) 4)
 (sSeq (sAsg (dCall 1 (g_pieces_by_pair) (aCons (dVar 1) aNil)) (dName 5))
 (sSeq (sAsgO (fun _ => some (.dct [])) 6)
 (sSeq (sAsg (dC (.int 0)) (dName 7))
 (sSeq (sWhile (peekT (tDt blD (d2 ltD (dVar 7) (dN lenD (aCons (dVar 4) aNil)))))
 (sSeq (sAsg (peekF (d2 ixD (dVar 4) (dVar 7))) (dName 8))
 (sSeq (sFor (dItems (dCall 2 (g_held_pairs c) (aCons (dVar 0) (aCons (dVar 8) aNil)))) (dName 9)
 (sIf (tDt blD (dNotInO 6 (dVar 9)))
 (sSeq (sPutO 6 (dVar 9) (dVar 8))
 (sSeq (sAsg (dGetO 5 (dVar 9) (dN mkLst aNil)) (dName 10))
 (sSeq (sIf (tDt blD (d2 ltD (dN lenD (aCons (dVar 10) aNil)) (dCall 2 (g_pair_room c) (aCons (dVar 0) (aCons (dVar 9) aNil)))))
 (sFrz [6] (sRetO (dCallO 3 (g_walk_to) (aCons (dVar 1) (aCons (dVar 6) (aCons (dVar 9) aNil))))))
 sNext)
 (sExt 4 (dVar 10)))))
 sNext))
 (sAugI (fun i j => i + j) 7 (dC (.int 1))))))
 (sRet (dC .non))))))))
def g_find_walk (c : Cs) : PF := runG 8 (t_find_walk c)
def t_take_walk : SF :=
 (sSeq (sAsgO (dN listD (aCons (dVar 0) aNil)) 2)
 (sSeq (sFor (dItems (dVar 1)) (dgTup 2 (dgCons (dName 3) (dgCons (dName 4) dgNil)))
 (sSetI 2 (dVar 3) (dVar 4)))
 (sRetV 2)))
def g_take_walk : PF := runG 3 (t_take_walk)
def t_best_lot (c : Cs) : SF :=
 (sSeq (Zst2.sOf (sAsg (d2 mulD (dN mkLst (aCons (dC .non) aNil)) (d1 (fldD c.Pool "pieces") (dVar 0))) (dName 2)))
 (sSeq (sFor (Zst2.dItemsT (Zst2.dSortK 5 (d1 (fldD c.Pool "pieces") (dVar 0)) (dN mkTup (aCons (d1 negD (d2 ixD (dVar 1) (dVar 5))) (aCons (dVar 5) aNil))))) (dName 3)
 (Zst2.sOf (sSeq (sAsg (dCallK 2 1 (g_find_walk c) (aCons (dVar 0) (aCons (dVar 2) aNil)) (aCons (dN mkLst (aCons (dVar 3) aNil)) aNil)) (dName 4))
 (sIf (tDt blD (d2 isntD (dVar 4) (dC .non)))
 (sAsg (dCall 2 (g_take_walk) (aCons (dVar 2) (aCons (dVar 4) aNil))) (dName 2))
 sNext))))
 (Zst2.sOf (sRetO (dLc (dEnum (aCons (dVar 2) aNil)) (dgTup 2 (dgCons (dName 3) (dgCons (dName 6) dgNil))) (tDt blD (d2 isntD (dVar 6) (dC .non))) (dVar 3) [3, 6])))))
def g_best_lot (c : Cs) : PF := runG 5 (t_best_lot c)
def t_law_cell : SF :=
 (sSeq (sIf (tDt blD (d2 ltD (dVar 1) (dN lenD (aCons (dVar 0) aNil))))
 (sRet (d2 ixD (dVar 0) (dVar 1)))
 sNext)
 (sRet (dC (.int 0))))
def g_law_cell : PF := runG 0 (t_law_cell)
def t_law_draws : SF :=
 (sSeq (sAsg (dN absD (aCons (dN intD (aCons (dVar 0) aNil)) aNil)) (dName 2))
 (sSeq (sAsg (d2 geD (dVar 2) (d2 powD (dC (.int 10)) (dC (.int 18)))) (dName 3))
 (sSeq (sAsgO (dN mkLst aNil) 4)
 (sSeq (sFor (dRng1 (aCons (dN lenD (aCons (dVar 1) aNil)) aNil)) (dName 5)
 (sSeq (sAsg (d2 ixD (dVar 1) (dVar 5)) (dName 6))
 (sIf (dAndT (tDt truD (dVar 3)) (tDt blD (d2 gtD (dVar 2) (dC (.int 0)))))
 (sSeq (sApp 4 (d2 modD (dN intD (aCons (dVar 2) aNil)) (dVar 6)))
 (sAsg (d2 fdivD (dVar 2) (dVar 6)) (dName 2)))
 (sSeq (sAsg (d2 modD (dN intD (aCons (d2 addD (d2 addD (dN absD (aCons (dN intD (aCons (dVar 0) aNil)) aNil)) (d2 mulD (dC (.int 7919)) (dVar 5))) (dC (.int 13))) aNil)) (dC (.int 2147483647))) (dName 7))
 (sSeq (sAsg (d2 modD (dN intD (aCons (d2 mulD (dVar 7) (d2 addD (dVar 7) (dC (.int 48271)))) aNil)) (dC (.int 2147483629))) (dName 7))
 (sSeq (sAsg (d2 modD (dN intD (aCons (d2 addD (d2 mulD (dVar 7) (d2 addD (dVar 7) (dC (.int 69621)))) (d2 mulD (dC (.int 31)) (dVar 5))) aNil)) (dC (.int 2147483647))) (dName 7))
 (sApp 4 (d2 modD (dN intD (aCons (d2 fdivD (dVar 7) (dC (.int 9))) aNil)) (dVar 6)))))))))
 (sRetV 4)))))
def g_law_draws : PF := runG 6 (t_law_draws)
def t_law_bits : SF :=
 (sRetO (dLc (dRng1 (aCons (dVar 1) aNil)) (dName 2) (tDt blD (d2 eqD (d2 modD (dN intD (aCons (d2 fdivD (dVar 0) (d2 ixD (dN mkTup (aCons (dC (.int 1)) (aCons (dC (.int 2)) (aCons (dC (.int 4)) (aCons (dC (.int 8)) (aCons (dC (.int 16)) (aCons (dC (.int 32)) (aCons (dC (.int 64)) aNil)))))))) (dVar 2))) aNil)) (dC (.int 2))) (dC (.int 1)))) (dVar 2) [2]))
def g_law_bits : PF := runG 1 (t_law_bits)
def t_law_pairs : SF :=
 (sSeq (sAsgO (dN mkLst aNil) 1)
 (sSeq (sFor (dRng1 (aCons (dVar 0) aNil)) (dName 2)
 (sFor (dRng2 (aCons (d2 addD (dVar 2) (dC (.int 1))) (aCons (dVar 0) aNil))) (dName 3)
 (sApp 1 (dN mkTup (aCons (dVar 2) (aCons (dVar 3) aNil))))))
 (sRetV 1)))
def g_law_pairs : PF := runG 3 (t_law_pairs)
def t_law_pool : SF :=
 (sSeq (sAsg (dCall 2 (g_law_draws) (aCons (dVar 0) (aCons (d2 addD (d2 addD (d2 addD (dN mkLst (aCons (dC (.int 5)) (aCons (d2 addD (dVar 1) (dC (.int 1))) (aCons (dC (.int 5)) aNil)))) (d2 mulD (dN mkLst (aCons (dC (.int 6)) aNil)) (dC (.int 5)))) (d2 mulD (dN mkLst (aCons (dC (.int 32)) aNil)) (dC (.int 8)))) (d2 mulD (dN mkLst (aCons (dC (.int 10)) aNil)) (dC (.int 8)))) aNil))) (dName 2))
 (sSeq (sAsg (d2 addD (d2 ixD (dVar 2) (dC (.int 0))) (dC (.int 1))) (dName 3))
 (sSeq (sAsg (dLc (dRng1 (aCons (dVar 3) aNil)) (dName 10) dYes (d2 ixD (dN mkTup (aCons (dC (.int 0)) (aCons (dC (.int 1)) (aCons (dC (.int 1)) (aCons (dC (.int 2)) (aCons (dC (.int 3)) (aCons (d2 addD (d2 powD (dC (.int 10)) (dC (.int 12))) (dVar 10)) aNil))))))) (d2 ixD (dVar 2) (d2 addD (dC (.int 3)) (dVar 10)))) [10]) (dName 4))
 (sSeq (sAsg (dCall 1 (g_law_pairs) (aCons (dVar 3) aNil)) (dName 5))
 (sSeq (sAsgO (dN mkLst aNil) 6)
 (sSeq (sFor (dRng1 (aCons (d2 ixD (dVar 2) (dC (.int 1))) aNil)) (dName 7)
 (sSeq (sAsg (dCall 2 (g_law_bits) (aCons (d2 ixD (dVar 2) (d2 addD (dC (.int 8)) (dVar 7))) (aCons (dVar 3) aNil))) (dName 8))
 (sSeq (sIf (dAndT (tDt blD (d2 eqD (d2 ixD (dVar 2) (dC (.int 2))) (dC (.int 1)))) (tDt blD (d2 gtD (dN lenD (aCons (dVar 5) aNil)) (dC (.int 0)))))
 (sSeq (sAsg (d2 ixD (dVar 5) (d2 modD (dN intD (aCons (d2 ixD (dVar 2) (d2 addD (dC (.int 16)) (dVar 7))) aNil)) (dN lenD (aCons (dVar 5) aNil)))) (dName 9))
 (sAsg (dLc (dRng1 (aCons (dVar 3) aNil)) (dName 10) (dOrT (tDt blD (d2 inD (dVar 10) (dVar 8))) (tDt blD (d2 inD (dVar 10) (dVar 9)))) (dVar 10) [10]) (dName 8)))
 sNext)
 (sSeq (sIf (dAndT (tDt blD (d2 eqD (d2 ixD (dVar 2) (dC (.int 2))) (dC (.int 2)))) (tDt blD (d2 gtD (dN lenD (aCons (dVar 5) aNil)) (dC (.int 0)))))
 (sAsg (dN listD (aCons (d2 ixD (dVar 5) (d2 modD (dN intD (aCons (d2 ixD (dVar 2) (d2 addD (dC (.int 16)) (dVar 7))) aNil)) (dN lenD (aCons (dVar 5) aNil)))) aNil)) (dName 8))
 sNext)
 (sSeq (sIf (tDt blD (d2 eqD (d2 ixD (dVar 2) (dC (.int 2))) (dC (.int 3))))
 (sAsg (dCall 2 (g_law_bits) (aCons (d2 ixD (dVar 2) (d2 addD (dC (.int 8)) (d2 fdivD (dVar 7) (dC (.int 4))))) (aCons (dVar 3) aNil))) (dName 8))
 sNext)
 (sApp 6 (dVar 8)))))))
 (sSeq (sIf (tDt blD (d2 eqD (d2 ixD (dVar 2) (dC (.int 2))) (dC (.int 4))))
 (sAsg (dLc (dRng1 (aCons (dVar 3) aNil)) (dName 10) dYes (d2 ixD (dVar 4) (dC (.int 0))) [10]) (dName 4))
 sNext)
 (sFrz [6] (sRet (dN mkTup (aCons (dVar 4) (aCons (dVar 6) aNil))))))))))))
def g_law_pool : PF := runG 9 (t_law_pool)
def t_law_lots : SF :=
 (sSeq (sAsg (dN mkLst (aCons (dN mkLst aNil) aNil)) (dName 1))
 (sSeq (sFor (dRng1 (aCons (dVar 0) aNil)) (dName 2)
 (sAsg (d2 addD (dVar 1) (dLc (dItems (dVar 1)) (dName 3) dYes (d2 addD (dVar 3) (dN mkLst (aCons (dVar 2) aNil))) [3])) (dName 1)))
 (sRet (dVar 1))))
def g_law_lots : PF := runG 3 (t_law_lots)
def t_law_places : SF :=
 (sSeq (sAsg (dC (.int 0)) (dName 3))
 (sSeq (sFor (dItems (dCall 1 (g_law_pairs) (aCons (dN lenD (aCons (dVar 0) aNil)) aNil))) (dName 4)
 (sFor (dItems (dVar 2)) (dName 5)
 (sIf (dAndT (tDt blD (d2 inD (d2 ixD (dVar 4) (dC (.int 0))) (d2 ixD (dVar 1) (dVar 5)))) (tDt blD (d2 inD (d2 ixD (dVar 4) (dC (.int 1))) (d2 ixD (dVar 1) (dVar 5)))))
 (sSeq (sAsg (d2 addD (dVar 3) (dN minD (aCons (d2 ixD (dVar 0) (d2 ixD (dVar 4) (dC (.int 0)))) (aCons (d2 ixD (dVar 0) (d2 ixD (dVar 4) (dC (.int 1)))) aNil)))) (dName 3))
 sBreak)
 sNext)))
 (sRet (dVar 3))))
def g_law_places : PF := runG 3 (t_law_places)
def t_law_is_integer : SF :=
 (sRet (dAndV (dN isiD (aCons (dVar 0) (aCons (dC (.ty "int")) aNil))) (d1 notD (dN isiD (aCons (dVar 0) (aCons (dC (.ty "bool")) aNil))))))
def g_law_is_integer : PF := runG 0 (t_law_is_integer)
def t_law_apart : SF :=
 (sSeq (sAsg (dCall 2 (g_law_draws) (aCons (dVar 0) (aCons (d2 addD (d2 addD (dN mkLst (aCons (dC (.int 3)) (aCons (dC (.int 8)) aNil))) (d2 mulD (dN mkLst (aCons (dC (.int 4)) aNil)) (dC (.int 4)))) (d2 mulD (dN mkLst (aCons (dC (.int 60)) aNil)) (dC (.int 17)))) aNil))) (dName 1))
 (sSeq (sAsg (d2 addD (dC (.int 2)) (d2 ixD (dVar 1) (dC (.int 0)))) (dName 2))
 (sSeq (sAsg (dCall 1 (g_law_pairs) (aCons (dVar 2) aNil)) (dName 3))
 (sSeq (sAsg (dLc (dRng1 (aCons (dVar 2) aNil)) (dName 7) dYes (d2 addD (dC (.int 1)) (d2 ixD (dVar 1) (d2 addD (dC (.int 2)) (dVar 7)))) [7]) (dName 4))
 (sSeq (sAsgO (dN mkLst aNil) 5)
 (sSeq (sFor (dRng1 (aCons (d2 addD (dC (.int 10)) (d2 ixD (dVar 1) (dC (.int 1)))) aNil)) (dName 6)
 (sApp 5 (dN listD (aCons (d2 ixD (dVar 3) (d2 modD (dN intD (aCons (d2 ixD (dVar 1) (d2 addD (dC (.int 6)) (dVar 6))) aNil)) (dN lenD (aCons (dVar 3) aNil)))) aNil))))
 (sFrz [5] (sRet (dN mkTup (aCons (dVar 4) (aCons (dVar 5) aNil)))))))))))
def g_law_apart : PF := runG 7 (t_law_apart)
def t_law_worths : SF :=
 (sSeq (sAsg (dCall 2 (g_law_draws) (aCons (dCall 2 (g_law_cell) (aCons (dVar 0) (aCons (dVar 1) aNil))) (aCons (d2 mulD (dN mkLst (aCons (dC (.int 10)) aNil)) (dC (.int 17))) aNil))) (dName 3))
 (sSeq (sAsg (d2 modD (dN intD (aCons (dN absD (aCons (dN intD (aCons (dCall 2 (g_law_cell) (aCons (dVar 0) (aCons (d2 addD (dVar 1) (dC (.int 1))) aNil))) aNil)) aNil)) aNil)) (d2 powD (dC (.int 10)) (dC (.int 39)))) (dName 4))
 (sSeq (sAsg (dN mkLst (aCons (dC (.int 0)) (aCons (dC (.int 0)) (aCons (dC (.int 1)) (aCons (dC (.int 1)) (aCons (dC (.int 2)) (aCons (dC (.int 9)) (aCons (dVar 4) (aCons (dVar 4) (aCons (d2 addD (dVar 4) (dC (.int 1))) (aCons (d2 powD (dC (.int 10)) (dC (.int 39))) aNil))))))))))) (dName 5))
 (sRetO (dLc (dRng1 (aCons (dVar 2) aNil)) (dName 6) dYes (d2 ixD (dVar 5) (d2 ixD (dVar 3) (dVar 6))) [6])))))
def g_law_worths : PF := runG 4 (t_law_worths)
def t_law_order : SF :=
 (sSeq (sAsg (d1 lrD (dN lenD (aCons (dVar 0) aNil))) (dName 1))
 (sSeq (sAsgO (dN mkLst aNil) 2)
 (sSeq (sFor (dRng1 (aCons (dN lenD (aCons (dVar 0) aNil)) aNil)) (dName 3)
 (sSeq (sAsg (d2 ixD (dVar 1) (dC (.int 0))) (dName 4))
 (sSeq (sFor (dItems (dVar 1)) (dName 5)
 (sIf (tDt blD (d2 gtD (d2 ixD (dVar 0) (dVar 5)) (d2 ixD (dVar 0) (dVar 4))))
 (sAsg (dVar 5) (dName 4))
 sNext))
 (sSeq (sApp 2 (dVar 4))
 (sAsg (dLc (dItems (dVar 1)) (dName 5) (tDt blD (d2 neD (dVar 5) (dVar 4))) (dVar 5) [5]) (dName 1))))))
 (sRetV 2))))
def g_law_order : PF := runG 5 (t_law_order)
def t_law_dealable : SF :=
 (sSeq (sAsgO (dN mkLst aNil) 2)
 (sSeq (sFor (dItems (dCall 1 (g_law_lots) (aCons (dN lenD (aCons (dVar 1) aNil)) aNil))) (dName 3)
 (sSeq (sAsg (dN sumD (aCons (dLc (dItems (dVar 3)) (dName 6) dYes (d2 ixD (dN mkTup (aCons (dC (.int 1)) (aCons (dC (.int 2)) (aCons (dC (.int 4)) (aCons (dC (.int 8)) (aCons (dC (.int 16)) (aCons (dC (.int 32)) aNil))))))) (dVar 6)) [6]) aNil)) (dName 4))
 (sSeq (sAsg (d2 leD (dN lenD (aCons (dVar 3) aNil)) (dCall 3 (g_law_places) (aCons (dVar 0) (aCons (dVar 1) (aCons (dVar 3) aNil))))) (dName 5))
 (sSeq (sFor (dItems (dVar 3)) (dName 6)
 (sAsg (peekF (dAndV (dVar 5) (d2 ixD (dVar 2) (d2 subD (dVar 4) (d2 ixD (dN mkTup (aCons (dC (.int 1)) (aCons (dC (.int 2)) (aCons (dC (.int 4)) (aCons (dC (.int 8)) (aCons (dC (.int 16)) (aCons (dC (.int 32)) aNil))))))) (dVar 6)))))) (dName 5)))
 (sApp 2 (dVar 5))))))
 (sRetV 2)))
def g_law_dealable : PF := runG 5 (t_law_dealable)
def t_law_collected : SF :=
 (sSeq (sAsg (dC (.int 0)) (dName 2))
 (sSeq (sFor (dItems (dCall 1 (g_law_order) (aCons (dVar 0) aNil))) (dName 3)
 (sIf (tDt truD (d2 ixD (dVar 1) (d2 addD (dVar 2) (d2 ixD (dN mkTup (aCons (dC (.int 1)) (aCons (dC (.int 2)) (aCons (dC (.int 4)) (aCons (dC (.int 8)) (aCons (dC (.int 16)) (aCons (dC (.int 32)) aNil))))))) (dVar 3)))))
 (sAsg (d2 addD (dVar 2) (d2 ixD (dN mkTup (aCons (dC (.int 1)) (aCons (dC (.int 2)) (aCons (dC (.int 4)) (aCons (dC (.int 8)) (aCons (dC (.int 16)) (aCons (dC (.int 32)) aNil))))))) (dVar 3))) (dName 2))
 sNext))
 (sRet (dCall 2 (g_law_bits) (aCons (dVar 2) (aCons (dN lenD (aCons (dVar 0) aNil)) aNil))))))
def g_law_collected : PF := runG 2 (t_law_collected)
def t_law_collected_apart : SF :=
 (sSeq (sAsgO (dN mkLst aNil) 3)
 (sSeq (sFor (dItems (dCall 1 (g_law_order) (aCons (dVar 2) aNil))) (dName 4)
 (sSeq (sAsg (Zq5.peekN (dLc (dItems (dVar 3)) (dName 6) (tDt blD (d2 eqD (d2 ixD (dVar 1) (dVar 6)) (d2 ixD (dVar 1) (dVar 4)))) (dVar 6) [6])) (dName 5))
 (sIf (tDt blD (d2 ltD (dN lenD (aCons (dVar 5) aNil)) (dN minD (aCons (d2 ixD (dVar 0) (d2 ixD (d2 ixD (dVar 1) (dVar 4)) (dC (.int 0)))) (aCons (d2 ixD (dVar 0) (d2 ixD (d2 ixD (dVar 1) (dVar 4)) (dC (.int 1)))) aNil)))))
 (sApp 3 (dVar 4))
 sNext)))
 (sFrz [3] (sRet (dN sortedD (aCons (dVar 3) aNil))))))
def g_law_collected_apart : PF := runG 4 (t_law_collected_apart)
def t_law_is_best : SF :=
 (sSeq (sIf (tDt blD (d2 gtD (dN sumD (aCons (dLc (dItems (dVar 2)) (dName 4) dYes (d2 ixD (dVar 0) (dVar 4)) [4]) aNil)) (dN sumD (aCons (dLc (dItems (dVar 1)) (dName 4) dYes (d2 ixD (dVar 0) (dVar 4)) [4]) aNil))))
 (sRet (dC (.bl false)))
 sNext)
 (sSeq (sFor (dItems (dVar 0)) (dName 3)
 (sIf (tDt blD (d2 gtD (dN lenD (aCons (dLc (dItems (dVar 2)) (dName 4) (tDt blD (d2 geD (d2 ixD (dVar 0) (dVar 4)) (dVar 3))) (dVar 4) [4]) aNil)) (dN lenD (aCons (dLc (dItems (dVar 1)) (dName 4) (tDt blD (d2 geD (d2 ixD (dVar 0) (dVar 4)) (dVar 3))) (dVar 4) [4]) aNil))))
 (sRet (dC (.bl false)))
 sNext))
 (sRet (dC (.bl true)))))
def g_law_is_best : PF := runG 2 (t_law_is_best)
def t_law_joined : SF :=
 (sSeq (sAsg (d2 addD (d2 ixD (dVar 0) (dC (.int 0))) (d2 ixD (dVar 1) (dC (.int 0)))) (dName 2))
 (sSeq (sAsg (dN lenD (aCons (d2 ixD (dVar 0) (dC (.int 0))) aNil)) (dName 3))
 (sSeq (sAsgO (dN mkLst aNil) 4)
 (sSeq (sAsgO (dN mkLst aNil) 5)
 (sSeq (sFor (dRng1 (aCons (dN maxD (aCons (dN lenD (aCons (d2 ixD (dVar 0) (dC (.int 1))) aNil)) (aCons (dN lenD (aCons (d2 ixD (dVar 1) (dC (.int 1))) aNil)) aNil))) aNil)) (dName 6)
 (sSeq (sIf (tDt blD (d2 ltD (dVar 6) (dN lenD (aCons (d2 ixD (dVar 0) (dC (.int 1))) aNil))))
 (sSeq (sApp 4 (dN listD (aCons (d2 ixD (d2 ixD (dVar 0) (dC (.int 1))) (dVar 6)) aNil)))
 (sApp 5 (dN mkTup (aCons (dC (.int 0)) (aCons (dVar 6) aNil)))))
 sNext)
 (sIf (tDt blD (d2 ltD (dVar 6) (dN lenD (aCons (d2 ixD (dVar 1) (dC (.int 1))) aNil))))
 (sSeq (sApp 4 (dLc (dItems (d2 ixD (d2 ixD (dVar 1) (dC (.int 1))) (dVar 6))) (dName 7) dYes (d2 addD (dVar 7) (dVar 3)) [7]))
 (sApp 5 (dN mkTup (aCons (dC (.int 1)) (aCons (dVar 6) aNil)))))
 sNext)))
 (sFrz [4, 5] (sRet (dN mkTup (aCons (dVar 2) (aCons (dVar 4) (aCons (dVar 5) aNil)))))))))))
def g_law_joined : PF := runG 6 (t_law_joined)
def t_law_collected_in_groups : SF :=
 (sSeq (sAsg (dN mkLst aNil) (dName 3))
 (sSeq (sFor (dRng1 (aCons (dC (.int 2)) aNil)) (dName 4)
 (sSeq (sAsg (dLc (dRng1 (aCons (dN lenD (aCons (dVar 1) aNil)) aNil)) (dName 7) (tDt blD (d2 eqD (d2 ixD (d2 ixD (dVar 1) (dVar 7)) (dC (.int 0))) (dVar 4))) (d2 ixD (dVar 2) (dVar 7)) [7]) (dName 5))
 (sSeq (sAsg (dCall 2 (g_law_collected) (aCons (dVar 5) (aCons (dCall 2 (g_law_dealable) (aCons (d2 ixD (d2 ixD (dVar 0) (dVar 4)) (dC (.int 0))) (aCons (d2 ixD (d2 ixD (dVar 0) (dVar 4)) (dC (.int 1))) aNil))) aNil))) (dName 6))
 (sAsg (d2 addD (dVar 3) (dLc (dRng1 (aCons (dN lenD (aCons (dVar 1) aNil)) aNil)) (dName 7) (dAndT (tDt blD (d2 eqD (d2 ixD (d2 ixD (dVar 1) (dVar 7)) (dC (.int 0))) (dVar 4))) (tDt blD (d2 inD (d2 ixD (d2 ixD (dVar 1) (dVar 7)) (dC (.int 1))) (dVar 6)))) (dVar 7) [7])) (dName 3)))))
 (sRet (dN sortedD (aCons (dVar 3) aNil)))))
def g_law_collected_in_groups : PF := runG 5 (t_law_collected_in_groups)
def t_law_is_right (c : Cs) : SF :=
 (sSeq (Zst2.sOf (sAsg (dMake c.Pool 2 (g_Pool_init c) (aCons (dN listD (aCons (dVar 0) aNil)) (aCons (dLc (dItems (dVar 1)) (dName 7) dYes (dN listD (aCons (dVar 7) aNil)) [7]) aNil))) (dName 3))) (sSeq (sFor (dItems (d2 addD (dVar 2) (dSl (dVar 2) oNone (oSome (dC (.int 1)))))) (dName 4) (sSeq (Zst2.sOf (sAsg (dN listD (aCons (d2 ixD (dVar 4) (dC (.int 0))) aNil)) (dName 5))) (sSeq (sAsgO (dCallO 2 (g_best_lot c) (aCons (dVar 3) (aCons (dVar 5) aNil))) 6) (Zst2.sOf (sSeq (sIf (peekT (dOrT (dNotT (tDt truD (dN isiD (aCons (dVar 6) (aCons (dC (.ty "list")) aNil))))) (tDt blD (d2 gtD (dN lenD (aCons (dLc (dItems (dVar 6)) (dName 8) (dNotT (tDt truD (dCall 1 (g_law_is_integer) (aCons (dVar 8) aNil)))) (dVar 8) [8]) aNil)) (dC (.int 0)))))) (sRet (dC (.bl false))) sNext) (sSeq (sIf (peekT (dOrT (tDt blD (d2 neD (dVar 6) (d2 ixD (dVar 4) (dC (.int 1))))) (tDt blD (d2 neD (dVar 5) (d2 ixD (dVar 4) (dC (.int 0))))))) (sRet (dC (.bl false))) sNext) (sSeq (sApp 6 (dC (.int 0))) (sSetI 6 (dC (.int 0)) (dC (.int 99)))))))))) (Zst2.sOf (sRet (dAndV (d2 eqD (dN listD (aCons (d1 (fldD c.Pool "caps") (dVar 3)) aNil)) (dVar 0)) (d2 eqD (dLc (dItems (d1 (fldD c.Pool "holders") (dVar 3))) (dName 7) dYes (dN listD (aCons (dVar 7) aNil)) [7]) (dVar 1)))))))
def g_law_is_right (c : Cs) : PF := runG 6 (t_law_is_right c)
def t_law (c : Cs) : SF :=
 (sSeq (Zst2.sOf (sAsg (dCall 2 (g_law_pool) (aCons (dCall 2 (g_law_cell) (aCons (dVar 0) (aCons (dC (.int 0)) aNil))) (aCons (dC (.int 6)) aNil))) (dgTup 2 (dgCons (dName 1) (dgCons (dName 2) dgNil))))) (sSeq (Zst2.sOf (sAsg (dCall 3 (g_law_worths) (aCons (dVar 0) (aCons (dC (.int 1)) (aCons (dN lenD (aCons (dVar 2) aNil)) aNil)))) (dName 3))) (sSeq (Zst2.sOf (sAsg (d1 revD (dVar 3)) (dName 4))) (sSeq (Zst2.sOf (sAsg (dCall 2 (g_law_dealable) (aCons (dVar 1) (aCons (dVar 2) aNil))) (dName 5))) (sSeq (Zst2.sOf (sAsg (dCall 2 (g_law_collected) (aCons (dVar 3) (aCons (dVar 5) aNil))) (dName 6))) (sSeq (sIf (dNotT (tDt truD (dCall 3 (g_law_is_right c) (aCons (dVar 1) (aCons (dVar 2) (aCons (dN mkLst (aCons (dN mkTup (aCons (dVar 3) (aCons (dVar 6) aNil))) (aCons (dN mkTup (aCons (dVar 4) (aCons (dCall 2 (g_law_collected) (aCons (dVar 4) (aCons (dVar 5) aNil))) aNil))) (aCons (dN mkTup (aCons (dVar 3) (aCons (dVar 6) aNil))) aNil)))) aNil)))))) (Zst2.sOf (sRet (dC (.bl false)))) (Zst2.sOf sNext)) (sSeq (Zst2.sOf (sAsg (dCall 1 (g_law_lots) (aCons (dN lenD (aCons (dVar 2) aNil)) aNil)) (dName 7))) (sSeq (Zst2.sOf (sFor (dRng1 (aCons (dN lenD (aCons (dVar 7) aNil)) aNil)) (dName 8) (sIf (dAndT (tDt truD (d2 ixD (dVar 5) (dVar 8))) (dNotT (tDt truD (dCall 3 (g_law_is_best) (aCons (dVar 3) (aCons (dVar 6) (aCons (d2 ixD (dVar 7) (dVar 8)) aNil))))))) (sRet (dC (.bl false))) sNext))) (sSeq (sIf (tDt blD (d2 eqD (d2 ixD (dCall 2 (g_law_draws) (aCons (dCall 2 (g_law_cell) (aCons (dVar 0) (aCons (dC (.int 6)) aNil))) (aCons (dN mkLst (aCons (dC (.int 2)) aNil)) aNil))) (dC (.int 0))) (dC (.int 0)))) (sSeq (Zst2.sOf (sAsg (dCall 1 (g_law_apart) (aCons (dCall 2 (g_law_cell) (aCons (dVar 0) (aCons (dC (.int 3)) aNil))) aNil)) (dgTup 2 (dgCons (dName 1) (dgCons (dName 2) dgNil))))) (sSeq (Zst2.sOf (sAsg (dCall 3 (g_law_worths) (aCons (dVar 0) (aCons (dC (.int 4)) (aCons (dN lenD (aCons (dVar 2) aNil)) aNil)))) (dName 3))) (sRet (dCall 3 (g_law_is_right c) (aCons (dVar 1) (aCons (dVar 2) (aCons (dN mkLst (aCons (dN mkTup (aCons (dVar 3) (aCons (dCall 3 (g_law_collected_apart) (aCons (dVar 1) (aCons (dVar 2) (aCons (dVar 3) aNil)))) aNil))) aNil)) aNil))))))) (Zst2.sOf sNext)) (sSeq (Zst2.sOf (sAsg (dN mkLst (aCons (dCall 2 (g_law_pool) (aCons (d2 addD (dN intD (aCons (dCall 2 (g_law_cell) (aCons (dVar 0) (aCons (dC (.int 3)) aNil))) aNil)) (dC (.int 5))) (aCons (dC (.int 6)) aNil))) (aCons (dCall 2 (g_law_pool) (aCons (d2 addD (dN intD (aCons (dCall 2 (g_law_cell) (aCons (dVar 0) (aCons (dC (.int 7)) aNil))) aNil)) (dC (.int 11))) (aCons (dC (.int 6)) aNil))) aNil))) (dName 9))) (sSeq (Zst2.sOf (sAsg (dCall 2 (g_law_joined) (aCons (d2 ixD (dVar 9) (dC (.int 0))) (aCons (d2 ixD (dVar 9) (dC (.int 1))) aNil))) (dgTup 3 (dgCons (dName 1) (dgCons (dName 2) (dgCons (dName 10) dgNil)))))) (sSeq (Zst2.sOf (sAsg (dCall 3 (g_law_worths) (aCons (dVar 0) (aCons (dC (.int 4)) (aCons (dN lenD (aCons (dVar 2) aNil)) aNil)))) (dName 3))) (sSeq (Zst2.sOf (sAsg (d1 revD (dVar 3)) (dName 4))) (sSeq (Zst2.sOf (sAsg (dCall 3 (g_law_collected_in_groups) (aCons (dVar 9) (aCons (dVar 10) (aCons (dVar 3) aNil)))) (dName 6))) (sSeq (Zst2.sOf (sAsg (dCall 3 (g_law_collected_in_groups) (aCons (dVar 9) (aCons (dVar 10) (aCons (dVar 4) aNil)))) (dName 11))) (sRet (dCall 3 (g_law_is_right c) (aCons (dVar 1) (aCons (dVar 2) (aCons (dN mkLst (aCons (dN mkTup (aCons (dVar 3) (aCons (dVar 6) aNil))) (aCons (dN mkTup (aCons (dVar 4) (aCons (dVar 11) aNil))) aNil))) aNil))))))))))))))))))))
def g_law (c : Cs) : PF := runG 11 (t_law c)
structure Txt (K : PySem.W.Frag) (mg : Str → Option Value) where
  c : Cs
  m_abs : mg "abs" = none
  m_all : mg "all" = none
  m_bool : mg "bool" = none
  m_enumerate : mg "enumerate" = none
  m_int : mg "int" = none
  m_isinstance : mg "isinstance" = none
  m_len : mg "len" = none
  m_list : mg "list" = none
  m_max : mg "max" = none
  m_min : mg "min" = none
  m_range : mg "range" = none
  m_reversed : mg "reversed" = none
  m_set : mg "set" = none
  m_sorted : mg "sorted" = none
  m_sum : mg "sum" = none
  m_tuple : mg "tuple" = none
  cl_Pool : Cls K c.Pool
  c_Pool : mg "Pool" = some (.ref c.Pool)
  n_Pool_caps : NoAttr K c.Pool "caps"
  n_Pool_holders : NoAttr K c.Pool "holders"
  n_Pool_seats : NoAttr K c.Pool "seats"
  n_Pool_pieces : NoAttr K c.Pool "pieces"
  f_are_different : Addr
  fd_are_different : FuncData
  F_are_different : Fun K "are_different" "are_different" s_are_different f_are_different fd_are_different
  b_are_different : Binds K fd_are_different ["numbers", "limit"] []
  g_are_different : mg "are_different" = some (.ref f_are_different)
  f_Pool_init : Addr
  fd_Pool_init : FuncData
  F_Pool_init : Fun K "__init__" "Pool.__init__" s_Pool_init f_Pool_init fd_Pool_init
  b_Pool_init : Binds K fd_Pool_init ["self", "caps", "holders"] []
  M_Pool : Mk K c.Pool f_Pool_init
  f_ordered_holders : Addr
  fd_ordered_holders : FuncData
  F_ordered_holders : Fun K "ordered_holders" "ordered_holders" s_ordered_holders f_ordered_holders fd_ordered_holders
  b_ordered_holders : Binds K fd_ordered_holders ["holders", "seats"] []
  g_ordered_holders : mg "ordered_holders" = some (.ref f_ordered_holders)
  f_pair_room : Addr
  fd_pair_room : FuncData
  F_pair_room : Fun K "pair_room" "pair_room" s_pair_room f_pair_room fd_pair_room
  b_pair_room : Binds K fd_pair_room ["pool", "pair"] []
  g_pair_room : mg "pair_room" = some (.ref f_pair_room)
  f_held_pairs : Addr
  fd_held_pairs : FuncData
  F_held_pairs : Fun K "held_pairs" "held_pairs" s_held_pairs f_held_pairs fd_held_pairs
  b_held_pairs : Binds K fd_held_pairs ["pool", "piece"] []
  g_held_pairs : mg "held_pairs" = some (.ref f_held_pairs)
  f_pairs_with_room : Addr
  fd_pairs_with_room : FuncData
  F_pairs_with_room : Fun K "pairs_with_room" "pairs_with_room" s_pairs_with_room f_pairs_with_room fd_pairs_with_room
  b_pairs_with_room : Binds K fd_pairs_with_room ["pool", "seats"] []
  g_pairs_with_room : mg "pairs_with_room" = some (.ref f_pairs_with_room)
  f_find_walk : Addr
  fd_find_walk : FuncData
  F_find_walk : Fun K "find_walk" "find_walk" s_find_walk f_find_walk fd_find_walk
  b_find_walk : ∃ ds, Vals [V.non] ds ∧ Binds K fd_find_walk ["pool", "dealing", "pieces"] ds
  kb_find_walk : KBinds K fd_find_walk ["pool", "dealing", "pieces"] ["pieces"] (gApp 2 1) (gApp 2 1)
  g_find_walk : mg "find_walk" = some (.ref f_find_walk)
  f_take_walk : Addr
  fd_take_walk : FuncData
  F_take_walk : Fun K "take_walk" "take_walk" s_take_walk f_take_walk fd_take_walk
  b_take_walk : Binds K fd_take_walk ["dealing", "walk"] []
  g_take_walk : mg "take_walk" = some (.ref f_take_walk)
  f_pieces_by_pair : Addr
  fd_pieces_by_pair : FuncData
  F_pieces_by_pair : Fun K "_pieces_by_pair" "_pieces_by_pair" s_pieces_by_pair f_pieces_by_pair fd_pieces_by_pair
  b_pieces_by_pair : Binds K fd_pieces_by_pair ["dealing"] []
  g_pieces_by_pair : mg "_pieces_by_pair" = some (.ref f_pieces_by_pair)
  f_walk_to : Addr
  fd_walk_to : FuncData
  F_walk_to : Fun K "_walk_to" "_walk_to" s_walk_to f_walk_to fd_walk_to
  b_walk_to : Binds K fd_walk_to ["dealing", "takers", "pair"] []
  g_walk_to : mg "_walk_to" = some (.ref f_walk_to)
  f_best_lot : Addr
  fd_best_lot : FuncData
  F_best_lot : Fun K "best_lot" "best_lot" s_best_lot f_best_lot fd_best_lot
  b_best_lot : Binds K fd_best_lot ["pool", "worths"] []
  g_best_lot : mg "best_lot" = some (.ref f_best_lot)
  f_law_cell : Addr
  fd_law_cell : FuncData
  F_law_cell : Fun K "_law_cell" "_law_cell" s_law_cell f_law_cell fd_law_cell
  b_law_cell : Binds K fd_law_cell ["script", "k"] []
  g_law_cell : mg "_law_cell" = some (.ref f_law_cell)
  f_law_draws : Addr
  fd_law_draws : FuncData
  F_law_draws : Fun K "_law_draws" "_law_draws" s_law_draws f_law_draws fd_law_draws
  b_law_draws : Binds K fd_law_draws ["cell", "sizes"] []
  g_law_draws : mg "_law_draws" = some (.ref f_law_draws)
  f_law_bits : Addr
  fd_law_bits : FuncData
  F_law_bits : Fun K "_law_bits" "_law_bits" s_law_bits f_law_bits fd_law_bits
  b_law_bits : Binds K fd_law_bits ["mask", "count"] []
  g_law_bits : mg "_law_bits" = some (.ref f_law_bits)
  f_law_pairs : Addr
  fd_law_pairs : FuncData
  F_law_pairs : Fun K "_law_pairs" "_law_pairs" s_law_pairs f_law_pairs fd_law_pairs
  b_law_pairs : Binds K fd_law_pairs ["seats"] []
  g_law_pairs : mg "_law_pairs" = some (.ref f_law_pairs)
  f_law_pool : Addr
  fd_law_pool : FuncData
  F_law_pool : Fun K "_law_pool" "_law_pool" s_law_pool f_law_pool fd_law_pool
  b_law_pool : Binds K fd_law_pool ["cell", "most"] []
  g_law_pool : mg "_law_pool" = some (.ref f_law_pool)
  f_law_lots : Addr
  fd_law_lots : FuncData
  F_law_lots : Fun K "_law_lots" "_law_lots" s_law_lots f_law_lots fd_law_lots
  b_law_lots : Binds K fd_law_lots ["count"] []
  g_law_lots : mg "_law_lots" = some (.ref f_law_lots)
  f_law_places : Addr
  fd_law_places : FuncData
  F_law_places : Fun K "_law_places" "_law_places" s_law_places f_law_places fd_law_places
  b_law_places : Binds K fd_law_places ["caps", "holders", "lot"] []
  g_law_places : mg "_law_places" = some (.ref f_law_places)
  f_law_is_integer : Addr
  fd_law_is_integer : FuncData
  F_law_is_integer : Fun K "_law_is_integer" "_law_is_integer" s_law_is_integer f_law_is_integer fd_law_is_integer
  b_law_is_integer : Binds K fd_law_is_integer ["actual"] []
  g_law_is_integer : mg "_law_is_integer" = some (.ref f_law_is_integer)
  f_law_apart : Addr
  fd_law_apart : FuncData
  F_law_apart : Fun K "_law_apart" "_law_apart" s_law_apart f_law_apart fd_law_apart
  b_law_apart : Binds K fd_law_apart ["cell"] []
  g_law_apart : mg "_law_apart" = some (.ref f_law_apart)
  f_law_worths : Addr
  fd_law_worths : FuncData
  F_law_worths : Fun K "_law_worths" "_law_worths" s_law_worths f_law_worths fd_law_worths
  b_law_worths : Binds K fd_law_worths ["script", "k", "count"] []
  g_law_worths : mg "_law_worths" = some (.ref f_law_worths)
  f_law_order : Addr
  fd_law_order : FuncData
  F_law_order : Fun K "_law_order" "_law_order" s_law_order f_law_order fd_law_order
  b_law_order : Binds K fd_law_order ["worths"] []
  g_law_order : mg "_law_order" = some (.ref f_law_order)
  f_law_dealable : Addr
  fd_law_dealable : FuncData
  F_law_dealable : Fun K "_law_dealable" "_law_dealable" s_law_dealable f_law_dealable fd_law_dealable
  b_law_dealable : Binds K fd_law_dealable ["caps", "holders"] []
  g_law_dealable : mg "_law_dealable" = some (.ref f_law_dealable)
  f_law_collected : Addr
  fd_law_collected : FuncData
  F_law_collected : Fun K "_law_collected" "_law_collected" s_law_collected f_law_collected fd_law_collected
  b_law_collected : Binds K fd_law_collected ["worths", "dealable"] []
  g_law_collected : mg "_law_collected" = some (.ref f_law_collected)
  f_law_collected_apart : Addr
  fd_law_collected_apart : FuncData
  F_law_collected_apart : Fun K "_law_collected_apart" "_law_collected_apart" s_law_collected_apart f_law_collected_apart fd_law_collected_apart
  b_law_collected_apart : Binds K fd_law_collected_apart ["caps", "holders", "worths"] []
  g_law_collected_apart : mg "_law_collected_apart" = some (.ref f_law_collected_apart)
  f_law_is_best : Addr
  fd_law_is_best : FuncData
  F_law_is_best : Fun K "_law_is_best" "_law_is_best" s_law_is_best f_law_is_best fd_law_is_best
  b_law_is_best : Binds K fd_law_is_best ["worths", "best", "lot"] []
  g_law_is_best : mg "_law_is_best" = some (.ref f_law_is_best)
  f_law_joined : Addr
  fd_law_joined : FuncData
  F_law_joined : Fun K "_law_joined" "_law_joined" s_law_joined f_law_joined fd_law_joined
  b_law_joined : Binds K fd_law_joined ["first", "second"] []
  g_law_joined : mg "_law_joined" = some (.ref f_law_joined)
  f_law_collected_in_groups : Addr
  fd_law_collected_in_groups : FuncData
  F_law_collected_in_groups : Fun K "_law_collected_in_groups" "_law_collected_in_groups" s_law_collected_in_groups f_law_collected_in_groups fd_law_collected_in_groups
  b_law_collected_in_groups : Binds K fd_law_collected_in_groups ["groups", "owners", "worths"] []
  g_law_collected_in_groups : mg "_law_collected_in_groups" = some (.ref f_law_collected_in_groups)
  f_law_is_right : Addr
  fd_law_is_right : FuncData
  F_law_is_right : Fun K "_law_is_right" "_law_is_right" s_law_is_right f_law_is_right fd_law_is_right
  b_law_is_right : Binds K fd_law_is_right ["caps", "holders", "asked"] []
  g_law_is_right : mg "_law_is_right" = some (.ref f_law_is_right)
  f_law : Addr
  fd_law : FuncData
  F_law : Fun K "law" "law" s_law f_law fd_law
  b_law : Binds K fd_law ["script"] []
  g_law : mg "law" = some (.ref f_law)
abbrev lamQ : Str := ("best_lot" ++ ".<locals>." : Str) ++ "<lambda>"
section
variable {P : Program} {w : World} {K : PySem.W.Frag} {mg : Str → Option Value} {base : Heap}
theorem sc_are_different : FnScope N_are_different ["numbers", "limit"] (defScope s_are_different) := ⟨rfl, rfl, rfl, by decide +kernel, rfl, by decide +kernel, by decide +kernel⟩
theorem ok_are_different (T : Txt K mg) : FnOk P w K mg base CX0 1 T.f_are_different T.fd_are_different ["numbers", "limit"] (spG K 2 (g_are_different)) := by
  refine fnG (m := 1) T.F_are_different sc_are_different rfl rfl (fun cdv A outer s H E hr => ?_)
  have hu := hr.units
  refine ⟨_, (pss_cons (ps_if (pt_not (pt_truth (pe_callB (cr_all rfl) (by rfl) T.m_all bt_all (pa_cons (pe_lc (own := [("number", 2)]) (g := (gName 2)) (tt := tYes) (te := (tChain _ _ (tC (.int 0)) (tVar 2) (tVar 1))) rfl sc_are_different.nd (pi_seq (pv 0)) (blkOk_by (N := N_are_different) (sc := defScope s_are_different) (by decide +kernel)) (fun _ _ _ _ _ => (pg_name (i := 2) sc_are_different.nd rfl (by first | exact Or.inl rfl | exact Or.inr rfl))) (fun _ _ _ _ _ => pts_nil) (fun _ _ _ _ _ => (pe_chain op_le op_lt pe_int (pv 2) (pv 1)))) pa_nil)) (fun _ => rfl)))
 (pss_one (ps_ret pe_bl))
 pss_nil)
 (pss_one (ps_ret (pe_cmpR (op_eqD hu) (pe_lenSetA (by rfl) T.m_len (by rfl) T.m_set (pv 0)) (pe_callB call_lenA (by rfl) T.m_len bt_len (pa_cons (pv 0) pa_nil)) (nomark _))))), ?_⟩
  exact ((sr_seq (sr_if (tr_not (tr_tru (er_n rc_all (ar_cons (er_of_eo (eo_lc (vs := [2]) (ir_seq (er_var 0)) (grc_name (j := 2) (by decide)) tr_yes (er_chain rr_le rr_lt er_int (er_var 2) (er_var 1)))) ar_nil))))
 (sr_ret er_bl)
 sr_next)
 (sr_ret (er_2 rr_eq (er_lenSet (er_var 0)) (er_n rc_len (ar_cons (er_var 0) ar_nil))))) : SR K _ (t_are_different))
theorem sc_ordered_holders : FnScope N_ordered_holders ["holders", "seats"] (defScope s_ordered_holders) := ⟨rfl, rfl, rfl, by decide +kernel, rfl, by decide +kernel, by decide +kernel⟩
theorem ok_ordered_holders (T : Txt K mg) : FnOk P w K mg base CX0 2 T.f_ordered_holders T.fd_ordered_holders ["holders", "seats"] (spG K 2 (g_ordered_holders)) := by
  have G_are_different := ok_are_different (P := P) (w := w) (base := base) T
  refine fnG (m := 2) T.F_ordered_holders sc_ordered_holders rfl rfl (fun cdv A outer s H E hr => ?_)
  have hu := hr.units
  refine ⟨_, (pss_cons (ps_for PassesOwn.never rfl (TS.pi_enumA (by rfl) T.m_enumerate (pa_cons (pv 0) pa_nil)) (pg_tup rfl (pgs_cons (pg_name (i := 2) sc_ordered_holders.nd rfl (by first | exact Or.inl rfl | exact Or.inr rfl)) (pgs_cons (pg_name (i := 3) sc_ordered_holders.nd rfl (by first | exact Or.inl rfl | exact Or.inr rfl)) pgs_nil)))
 (pss_one (ps_if (pt_not (pt_truth (pe_call G_are_different (hr.mono (by decide)) (by rfl) T.g_are_different T.F_are_different.kp T.b_are_different .nil pass0 (pa_cons (pv 3) (pa_cons (pv 1) pa_nil))) (fun _ => rfl)))
 (pss_one ps_never)
 pss_nil)))
 (pss_one (ps_ret (pe_callTy call_tuple_of (by rfl) T.m_tuple bt_tuple (pa_cons (pe_lc (own := [("row", 3)]) (g := (gName 3)) (tt := tYes) (te := (tCB (rTupleOf K) (tCons (tCB (rSortedA K) (tCons (tVar 3) tNil)) tNil))) rfl sc_ordered_holders.nd (pi_seq (pv 0)) (blkOk_by (N := N_ordered_holders) (sc := defScope s_ordered_holders) (by decide +kernel)) (fun _ _ _ _ _ => (pg_name (i := 3) sc_ordered_holders.nd rfl (by first | exact Or.inl rfl | exact Or.inr rfl))) (fun _ _ _ _ _ => pts_nil) (fun _ _ _ _ _ => (pe_callTy call_tuple_of (by rfl) T.m_tuple bt_tuple (pa_cons (pe_callB call_sortedA (by rfl) T.m_sorted bt_sorted (pa_cons (pv 3) pa_nil)) pa_nil)))) pa_nil))))), ?_⟩
  exact ((sr_seq (sr_for (ir_enum (ar_cons (er_var 0) ar_nil)) (gr'_tup (n := 2) (grs'_cons (gr'_name 2) (grs'_cons (gr'_name 3) grs'_nil)))
 (sr_if (tr_not (tr_tru (er_call (ar_cons (er_var 3) (ar_cons (er_var 1) ar_nil)))))
 sr_never
 sr_next))
 (sr_ret (er_n rc_tuple (ar_cons (er_of_eo (eo_lc (vs := [3]) (ir_seq (er_var 0)) (grc_name (j := 3) (by decide)) tr_yes (er_n rc_tuple (ar_cons (er_n rc_sorted (ar_cons (er_var 3) ar_nil)) ar_nil)))) ar_nil)))) : SR K _ (t_ordered_holders))
theorem sc_Pool_init : FnScope N_Pool_init ["self", "caps", "holders"] (defScope s_Pool_init) := ⟨rfl, rfl, rfl, by decide +kernel, rfl, by decide +kernel, by decide +kernel⟩
theorem ok_Pool_init (T : Txt K mg) : FnOk P w K mg base CX0 3 T.f_Pool_init T.fd_Pool_init ["self", "caps", "holders"] (spI K T.c.Pool 2 (g_Pool_init T.c)) := by
  have G_ordered_holders := ok_ordered_holders (P := P) (w := w) (base := base) T
  refine initG (m := 0) T.F_Pool_init sc_Pool_init rfl rfl (fun cdv A outer s H E hr => ?_)
  have hu := hr.units
  refine ⟨_, (pss_cons (ps_if ((pw_or (pt_cmpR (op_eqD hu) (pe_callB call_lenA (by rfl) T.m_len bt_len (pa_cons (pv 1) pa_nil)) pe_int (nomark _)) (pw_or1 (pt_cmpR op_lt (pe_callB (call_minA rfl) (by rfl) T.m_min bt_min (pa_cons (pv 1) pa_nil)) pe_int (nomark _))))).pt
 (pss_one ps_never)
 pss_nil)
 (pss_cons (ps_fld (pv 0) (pe_callTy call_tuple_of (by rfl) T.m_tuple bt_tuple (pa_cons (pv 1) pa_nil)) rfl)
 (pss_cons (ps_fld (pv 0) (pe_call G_ordered_holders (hr.mono (by decide)) (by rfl) T.g_ordered_holders T.F_ordered_holders.kp T.b_ordered_holders .nil pass0 (pa_cons (pv 2) (pa_cons (pe_callB call_lenA (by rfl) T.m_len bt_len (pa_cons (pv 1) pa_nil)) pa_nil))) rfl)
 (pss_cons (ps_fld (pv 0) (pe_callB call_lenA (by rfl) T.m_len bt_len (pa_cons (pe_fld (pv 0) rfl) pa_nil)) rfl)
 (pss_one (ps_fld (pv 0) (pe_callB call_lenA (by rfl) T.m_len bt_len (pa_cons (pe_fld (pv 0) rfl) pa_nil)) rfl)))))), ?_⟩
  exact ((sr_seq (sr_if (tr_or (tr_test (er_2 rr_eq (er_n rc_len (ar_cons (er_var 1) ar_nil)) er_int)) (tr_test (er_2 rr_lt (er_n rc_min (ar_cons (er_var 1) ar_nil)) er_int)))
 sr_never
 sr_next)
 (sr_seq (sr_fld T.cl_Pool T.n_Pool_caps (er_n rc_tuple (ar_cons (er_var 1) ar_nil)))
 (sr_seq (sr_fld T.cl_Pool T.n_Pool_holders (er_call (ar_cons (er_var 2) (ar_cons (er_n rc_len (ar_cons (er_var 1) ar_nil)) ar_nil))))
 (sr_seq (sr_fld T.cl_Pool T.n_Pool_seats (er_peekF (er_n rc_len (ar_cons (er_fld T.cl_Pool T.n_Pool_caps (er_var 0)) ar_nil))))
 (sr_fld T.cl_Pool T.n_Pool_pieces (er_peekF (er_n rc_len (ar_cons (er_fld T.cl_Pool T.n_Pool_holders (er_var 0)) ar_nil)))))))) : SR K _ (t_Pool_init T.c))
theorem sc_pair_room : FnScope N_pair_room ["pool", "pair"] (defScope s_pair_room) := ⟨rfl, rfl, rfl, by decide +kernel, rfl, by decide +kernel, by decide +kernel⟩
theorem ok_pair_room (T : Txt K mg) : FnOk P w K mg base CX0 1 T.f_pair_room T.fd_pair_room ["pool", "pair"] (spG K 2 (g_pair_room T.c)) := by
  refine fnG (m := 2) T.F_pair_room sc_pair_room rfl rfl (fun cdv A outer s H E hr => ?_)
  have hu := hr.units
  refine ⟨_, (pss_cons (ps_asg (pv 1) (pg_tup rfl (pgs_cons (pg_name (i := 2) sc_pair_room.nd rfl (by first | exact Or.inl rfl | exact Or.inr rfl)) (pgs_cons (pg_name (i := 3) sc_pair_room.nd rfl (by first | exact Or.inl rfl | exact Or.inr rfl)) pgs_nil))))
 (pss_one (ps_ret (pe_callB (call_minA rfl) (by rfl) T.m_min bt_min (pa_cons (pe_ix ix_seq (pe_fld (pv 0) rfl) (pv 2) (fun _ _ => rfl)) (pa_cons (pe_ix ix_seq (pe_fld (pv 0) rfl) (pv 3) (fun _ _ => rfl)) pa_nil)))))), ?_⟩
  exact ((sr_seq (sr_asg (er_var 1) (gr'_tup (n := 2) (grs'_cons (gr'_name 2) (grs'_cons (gr'_name 3) grs'_nil))))
 (sr_ret (er_n rc_min (ar_cons (er_2 rr_ix (er_fld T.cl_Pool T.n_Pool_caps (er_var 0)) (er_var 2)) (ar_cons (er_2 rr_ix (er_fld T.cl_Pool T.n_Pool_caps (er_var 0)) (er_var 3)) ar_nil))))) : SR K _ (t_pair_room T.c))
theorem sc_pairs_with_room : FnScope N_pairs_with_room ["pool", "seats"] (defScope s_pairs_with_room) := ⟨rfl, rfl, rfl, by decide +kernel, rfl, by decide +kernel, by decide +kernel⟩
theorem ok_pairs_with_room (T : Txt K mg) : FnOk P w K mg base CX0 1 T.f_pairs_with_room T.fd_pairs_with_room ["pool", "seats"] (spG K 2 (g_pairs_with_room T.c)) := by
  refine fnG (m := 5) T.F_pairs_with_room sc_pairs_with_room rfl rfl (fun cdv A outer s H E hr => ?_)
  have hu := hr.units
  refine ⟨_, (pss_cons (ps_set (i := 2) sc_pairs_with_room.nd rfl (by first | exact Or.inl rfl | exact Or.inr rfl) (pe_lc (own := [("seat", 3)]) (g := (gName 3)) (tt := (tTest (tOp _ (tOp (rIx K) (tFld K (tVar 0) "caps") (tVar 3)) (tC (.int 0))))) (te := (tVar 3)) rfl sc_pairs_with_room.nd (pi_seq (pv 1)) (blkOk_by (N := N_pairs_with_room) (sc := defScope s_pairs_with_room) (by decide +kernel)) (fun _ _ _ _ _ => (pg_name (i := 3) sc_pairs_with_room.nd rfl (by first | exact Or.inl rfl | exact Or.inr rfl))) (fun _ _ _ _ _ => (pts_one (pt_cmpR op_gt (pe_ix ix_seq (pe_fld (pv 0) rfl) (pv 3) (fun _ _ => rfl)) pe_int (nomark _)))) (fun _ _ _ _ _ => (pv 3))))
 (pss_one (ps_ret (pe_lc2 (own := [("at", 4), ("first", 5), ("second", 6)]) (vs1 := [6]) (g := (gTup K 2 (gCons (gName 4) (gCons (gName 5) gNil)))) (tt := tYes) (wi1 := (iSeq K (tSl (rSlL K) (tVar 2) (tPart (tOp _ (tVar 4) (tC (.int 1)))) tNoPart))) (g1 := (gName 6)) (tt1 := tYes) (te := (tTup (tCons (tVar 5) (tCons (tVar 6) tNil)))) rfl sc_pairs_with_room.nd (TS.pi_enumA (by rfl) T.m_enumerate (pa_cons (pv 2) pa_nil)) (blkOk_by (N := N_pairs_with_room) (sc := defScope s_pairs_with_room) (by decide +kernel)) (by decide) (fun _ _ _ _ _ => (pg_tup rfl (pgs_cons (pg_name (i := 4) sc_pairs_with_room.nd rfl (by first | exact Or.inl rfl | exact Or.inr rfl)) (pgs_cons (pg_name (i := 5) sc_pairs_with_room.nd rfl (by first | exact Or.inl rfl | exact Or.inr rfl)) pgs_nil)))) (fun _ _ _ _ _ => pts_nil) (fun _ _ _ _ _ => (pi_seq (pe_slice sl_list (pv 2) (po_some (pe_op op_addA (pv 4) pe_int)) po_none))) (fun _ _ _ _ _ => (pg_name (i := 6) sc_pairs_with_room.nd rfl (by first | exact Or.inl rfl | exact Or.inr rfl))) (fun _ _ _ _ _ => pts_nil) (fun _ _ _ _ _ => (pe_tup (pa_cons (pv 5) (pa_cons (pv 6) pa_nil)))))))), ?_⟩
  exact ((sr_seq (sr_asg (er_of_eo (eo_lc (vs := [3]) (ir_seq (er_var 1)) (grc_name (j := 3) (by decide)) (tr_test (er_2 rr_gt (er_2 rr_ix (er_fld T.cl_Pool T.n_Pool_caps (er_var 0)) (er_var 3)) er_int)) (er_var 3))) (gr'_name 2))
 (sr_retO (eo_lc2 (vs := [4, 5, 6]) (vs1 := [6]) (ir_enum (ar_cons (er_var 2) ar_nil)) (grc_tup2 (i := 4) (j := 5) (by decide) (by decide)) tr_yes (ir_seq (er_sl (er_var 2) (or_some (er_2 rr_add (er_var 4) er_int)) or_none)) (grc_name (j := 6) (by decide)) tr_yes (er_tup (ar_cons (er_var 5) (ar_cons (er_var 6) ar_nil)))))) : SR K _ (t_pairs_with_room T.c))
theorem sc_held_pairs : FnScope N_held_pairs ["pool", "piece"] (defScope s_held_pairs) := ⟨rfl, rfl, rfl, by decide +kernel, rfl, by decide +kernel, by decide +kernel⟩
theorem ok_held_pairs (T : Txt K mg) : FnOk P w K mg base CX0 2 T.f_held_pairs T.fd_held_pairs ["pool", "piece"] (spG K 2 (g_held_pairs T.c)) := by
  have G_pairs_with_room := ok_pairs_with_room (P := P) (w := w) (base := base) T
  refine fnG (m := 0) T.F_held_pairs sc_held_pairs rfl rfl (fun cdv A outer s H E hr => ?_)
  have hu := hr.units
  refine ⟨_, (pss_one (ps_ret (pe_call G_pairs_with_room (hr.mono (by decide)) (by rfl) T.g_pairs_with_room T.F_pairs_with_room.kp T.b_pairs_with_room .nil pass0 (pa_cons (pv 0) (pa_cons (pe_ix ix_seq (pe_fld (pv 0) rfl) (pv 1) (fun _ _ => rfl)) pa_nil))))), ?_⟩
  exact ((sr_retO (eo_call (ar_cons (er_var 0) (ar_cons (er_2 rr_ix (er_fld T.cl_Pool T.n_Pool_holders (er_var 0)) (er_var 1)) ar_nil)))) : SR K _ (t_held_pairs T.c))
theorem sc_pieces_by_pair : FnScope N_pieces_by_pair ["dealing"] (defScope s_pieces_by_pair) := ⟨rfl, rfl, rfl, by decide +kernel, rfl, by decide +kernel, by decide +kernel⟩
theorem ok_pieces_by_pair (T : Txt K mg) : FnOk P w K mg base CX0 1 T.f_pieces_by_pair T.fd_pieces_by_pair ["dealing"] (spG K 1 (g_pieces_by_pair)) := by
  refine fnG (m := 3) T.F_pieces_by_pair sc_pieces_by_pair rfl rfl (fun cdv A outer s H E hr => ?_)
  have hu := hr.units
  refine ⟨_, (pss_cons (ps_set (i := 1) sc_pieces_by_pair.nd rfl (by first | exact Or.inl rfl | exact Or.inr rfl) pe_dnewT)
 (pss_cons (ps_for PassesOwn.never rfl (TS.pi_enumA (by rfl) T.m_enumerate (pa_cons (pv 0) pa_nil)) (pg_tup rfl (pgs_cons (pg_name (i := 2) sc_pieces_by_pair.nd rfl (by first | exact Or.inl rfl | exact Or.inr rfl)) (pgs_cons (pg_name (i := 3) sc_pieces_by_pair.nd rfl (by first | exact Or.inl rfl | exact Or.inr rfl)) pgs_nil)))
 (pss_one (ps_if (pt_cmpR op_notN (pv 3) pe_non (nomark _))
 (pss_one (ps_expr (pe_bm PySem.F.plainAttrs_list PySem.F.slot_list_append PySem.F.type_list_append mt_append (pe_dsetdT (hu1 hu) (pv 1) (pv 3) (pe_lst pa_nil) ⟨rfl, rfl, rfl, rfl⟩) (pa_cons (pv 2) pa_nil))))
 pss_nil)))
 (pss_one (ps_ret (pv 1))))), ?_⟩
  exact (sr_seats : SR K _ (t_pieces_by_pair))
theorem sc_walk_to : FnScope N_walk_to ["dealing", "takers", "pair"] (defScope s_walk_to) := ⟨rfl, rfl, rfl, by decide +kernel, rfl, by decide +kernel, by decide +kernel⟩
theorem ok_walk_to (T : Txt K mg) : FnOk P w K mg base CX0 1 T.f_walk_to T.fd_walk_to ["dealing", "takers", "pair"] (spG K 3 (g_walk_to)) := by
  refine fnG (m := 2) T.F_walk_to sc_walk_to rfl rfl (fun cdv A outer s H E hr => ?_)
  have hu := hr.units
  refine ⟨_, (pss_cons (ps_set (i := 3) sc_walk_to.nd rfl (by first | exact Or.inl rfl | exact Or.inr rfl) (pe_lst pa_nil))
 (pss_cons (ps_while PassesOwn.never (pt_cmpR op_notN (pv 2) pe_non (nomark _))
 (pss_cons (ps_set (i := 4) sc_walk_to.nd rfl (by first | exact Or.inl rfl | exact Or.inr rfl) (pe_dget (hu1 hu) (pv 1) (pv 2) (fun _ _ => rfl)))
 (pss_cons (ps_expr (pe_bm PySem.F.plainAttrs_list PySem.F.slot_list_append PySem.F.type_list_append mt_append (pv 3) (pa_cons (pe_tup (pa_cons (pv 4) (pa_cons (pv 2) pa_nil))) pa_nil)))
 (pss_one (ps_set (i := 2) sc_walk_to.nd rfl (by first | exact Or.inl rfl | exact Or.inr rfl) (pe_ix ix_seq (pv 0) (pv 4) (fun _ _ => rfl)))))))
 (pss_one (ps_ret (pe_revL (pv 3)))))), ?_⟩
  exact ((sr_seq (sr_asgO (eo_lst ar_nil))
 (sr_seq (sr_while (tr_test (er_2 rr_isnt (er_var 2) er_non))
 (sr_seq (sr_asg (er_dix (i := 1) (er_var 2)) (gr'_name 4))
 (sr_seq (sr_app (i := 3) (er_tup (ar_cons (er_var 4) (ar_cons (er_var 2) ar_nil))))
 (sr_asg (er_2 rr_ix (er_var 0) (er_var 4)) (gr'_name 2)))))
 (sr_frz [3] (sr_retO (eo_revL (er_var 3)))))) : SR K _ (t_walk_to))
theorem sc_find_walk : FnScope N_find_walk ["pool", "dealing", "pieces"] (defScope s_find_walk) := ⟨rfl, rfl, rfl, by decide +kernel, rfl, by decide +kernel, by decide +kernel⟩
theorem ok_find_walk (T : Txt K mg) : FnOk P w K mg base CX0 3 T.f_find_walk T.fd_find_walk ["pool", "dealing", "pieces"] (spG K 3 (g_find_walk T.c)) := by
  have G_pieces_by_pair := ok_pieces_by_pair (P := P) (w := w) (base := base) T
  have G_held_pairs := ok_held_pairs (P := P) (w := w) (base := base) T
  have G_pair_room := ok_pair_room (P := P) (w := w) (base := base) T
  have G_walk_to := ok_walk_to (P := P) (w := w) (base := base) T
  refine fnG (m := 8) T.F_find_walk sc_find_walk rfl rfl (fun cdv A outer s H E hr => ?_)
  have hu := hr.units
  refine ⟨_, (pss_cons (ps_set (i := 3) sc_find_walk.nd rfl (by first | exact Or.inl rfl | exact Or.inr rfl) (pe_ifExp (pt_cmpR op_isN (pv 2) pe_non (nomark _)) (pe_listRg rfl (by rfl) T.m_list (prg_1 (by rfl) T.m_range (pe_fld (pv 0) rfl))) (pv 2)))
 (pss_cons (ps_setLc (i := 4) (own := [("piece", 8)]) (g := (gName 8)) (tt := (tTest (tOp _ (tOp (rIx K) (tVar 1) (tVar 8)) (tC .non)))) (te := (tVar 8)) rfl sc_find_walk.nd rfl rfl (sw_true rfl rfl rfl (by decide +kernel)) (pi_seq (pv 3)) (blkOk_by (N := N_find_walk) (sc := defScope s_find_walk) (by decide +kernel)) (fun _ _ _ _ _ => (pg_name (i := 8) sc_find_walk.nd rfl (by first | exact Or.inl rfl | exact Or.inr rfl))) (fun _ _ _ _ _ => (pts_one (pt_cmpR op_isN (pe_ix ix_seq (pv 1) (pv 8) (fun _ _ => rfl)) pe_non (nomark _)))) (fun _ _ _ _ _ => (pv 8)))
 (pss_cons (ps_set (i := 5) sc_find_walk.nd rfl (by first | exact Or.inl rfl | exact Or.inr rfl) (pe_call G_pieces_by_pair (hr.mono (by decide)) (by rfl) T.g_pieces_by_pair T.F_pieces_by_pair.kp T.b_pieces_by_pair .nil pass0 (pa_cons (pv 1) pa_nil)))
 (pss_cons (ps_set (i := 6) sc_find_walk.nd rfl (by first | exact Or.inl rfl | exact Or.inr rfl) pe_dnewT)
 (pss_cons (ps_set (i := 7) sc_find_walk.nd rfl (by first | exact Or.inl rfl | exact Or.inr rfl) pe_int)
 (pss_cons (ps_while PassesOwn.never (pt_cmpR op_lt (pv 7) (pe_callB call_lenA (by rfl) T.m_len bt_len (pa_cons (pv 4) pa_nil)) (nomark _))
 (pss_cons (ps_set (i := 8) sc_find_walk.nd rfl (by first | exact Or.inl rfl | exact Or.inr rfl) (pe_ix ix_seq (pv 4) (pv 7) (fun _ _ => rfl)))
 (pss_cons (ps_for PassesOwn.never rfl (pi_seq (pe_call G_held_pairs (hr.mono (by decide)) (by rfl) T.g_held_pairs T.F_held_pairs.kp T.b_held_pairs .nil pass0 (pa_cons (pv 0) (pa_cons (pv 8) pa_nil)))) (pg_name (i := 9) sc_find_walk.nd rfl (by first | exact Or.inl rfl | exact Or.inr rfl))
 (pss_one (ps_if (pt_cmp (pc_dnotin (hu1 hu) (pv 9) (pv 6)))
 (pss_cons (ps_dput (hu1 hu) (pv 6) (pv 9) (pv 8) rfl)
 (pss_cons (ps_set (i := 10) sc_find_walk.nd rfl (by first | exact Or.inl rfl | exact Or.inr rfl) (pe_dget2 (hu1 hu) (pv 5) (pv 9) (pe_lst pa_nil) ⟨rfl, rfl, rfl, rfl⟩))
 (pss_cons (ps_if (pt_cmpR op_lt (pe_callB call_lenA (by rfl) T.m_len bt_len (pa_cons (pv 10) pa_nil)) (pe_call G_pair_room (hr.mono (by decide)) (by rfl) T.g_pair_room T.F_pair_room.kp T.b_pair_room .nil pass0 (pa_cons (pv 0) (pa_cons (pv 9) pa_nil))) (nomark _))
 (pss_one (ps_ret (pe_call G_walk_to (hr.mono (by decide)) (by rfl) T.g_walk_to T.F_walk_to.kp T.b_walk_to .nil pass0 (pa_cons (pv 1) (pa_cons (pv 6) (pa_cons (pv 9) pa_nil))))))
 pss_nil)
 (pss_one (ps_expr (pe_bm PySem.F.plainAttrs_list PySem.F.slot_list_extend PySem.F.type_list_extend mt_extend (pv 4) (pa_cons (pv 10) pa_nil)))))))
 pss_nil)))
 (pss_one (ps_aug (i := 7) sc_find_walk.nd rfl (by first | exact Or.inl rfl | exact Or.inr rfl) pe_int ip_add)))))
 (pss_one (ps_ret pe_non)))))))), ?_⟩
  exact ((sr_seq (sr_asg (er_if (tr_test (er_2 rr_is (er_var 2) er_non)) (er_listRg (er_fld T.cl_Pool T.n_Pool_pieces (er_var 0))) (er_var 2)) (gr'_name 3))
 (sr_seq (sr_asgO (eo_lc (vs := [8]) (ir_seq (er_var 3)) (grc_name (j := 8) (by decide)) (tr_test (er_2 rr_is (er_2 rr_ix (er_var 1) (er_var 8)) er_non)) (er_var 8)))
 (sr_seq (sr_asg (er_call (ar_cons (er_var 1) ar_nil)) (gr'_name 5))
 (sr_seq (sr_asgO eo_dnew)
 (sr_seq (sr_asg er_int (gr'_name 7))
 (sr_seq (sr_while (tr_peek (tr_test (er_2 rr_lt (er_var 7) (er_n rc_len (ar_cons (er_var 4) ar_nil)))))
 (sr_seq (sr_asg (er_peekF (er_2 rr_ix (er_var 4) (er_var 7))) (gr'_name 8))
 (sr_seq (sr_for (ir_seq (er_call (ar_cons (er_var 0) (ar_cons (er_var 8) ar_nil)))) (gr'_name 9)
 (sr_if (tr_test (er_dnin (i := 6) (er_var 9)))
 (sr_seq (sr_put (i := 6) (er_var 9) (er_var 8))
 (sr_seq (sr_asg (er_dget (i := 5) (er_var 9) (er_lst ar_nil)) (gr'_name 10))
 (sr_seq (sr_if (tr_test (er_2 rr_lt (er_n rc_len (ar_cons (er_var 10) ar_nil)) (er_call (ar_cons (er_var 0) (ar_cons (er_var 9) ar_nil)))))
 (sr_frz [6] (sr_retO (eo_call (ar_cons (er_var 1) (ar_cons (er_var 6) (ar_cons (er_var 9) ar_nil))))))
 sr_next)
 (sr_ext (i := 4) (er_var 10)))))
 sr_next))
 (sr_augI (i := 7) er_int))))
 (sr_ret er_non))))))) : SR K _ (t_find_walk T.c))
theorem sc_take_walk : FnScope N_take_walk ["dealing", "walk"] (defScope s_take_walk) := ⟨rfl, rfl, rfl, by decide +kernel, rfl, by decide +kernel, by decide +kernel⟩
theorem ok_take_walk (T : Txt K mg) : FnOk P w K mg base CX0 1 T.f_take_walk T.fd_take_walk ["dealing", "walk"] (spG K 2 (g_take_walk)) := by
  refine fnG (m := 3) T.F_take_walk sc_take_walk rfl rfl (fun cdv A outer s H E hr => ?_)
  have hu := hr.units
  refine ⟨_, (pss_cons (ps_set (i := 2) sc_take_walk.nd rfl (by first | exact Or.inl rfl | exact Or.inr rfl) (pe_callTy call_list_of (by rfl) T.m_list bt_list (pa_cons (pv 0) pa_nil)))
 (pss_cons (ps_for PassesOwn.never rfl (pi_seq (pv 1)) (pg_tup rfl (pgs_cons (pg_name (i := 3) sc_take_walk.nd rfl (by first | exact Or.inl rfl | exact Or.inr rfl)) (pgs_cons (pg_name (i := 4) sc_take_walk.nd rfl (by first | exact Or.inl rfl | exact Or.inr rfl)) pgs_nil)))
 (pss_one (ps_asg (pv 4) (pg_sub (pv 2) (pv 3) set_list))))
 (pss_one (ps_ret (pv 2))))), ?_⟩
  exact ((sr_seq (sr_asgO (eo_list (er_var 0)))
 (sr_seq (sr_for (ir_seq (er_var 1)) (gr'_tup (n := 2) (grs'_cons (gr'_name 3) (grs'_cons (gr'_name 4) grs'_nil)))
 (sr_setI (i := 2) (er_var 3) (er_var 4)))
 (sr_retV 2))) : SR K _ (t_take_walk))
theorem sc_best_lot : FnScope N_best_lot ["pool", "worths"] (defScope s_best_lot) := ⟨rfl, rfl, rfl, by decide +kernel, rfl, by decide +kernel, by decide +kernel⟩
theorem ok_best_lot (T : Txt K mg) {P0 c0 : Addr} (TB : LamX.TabB base mg c0 P0) (hc0 : T.fd_best_lot.code = .ref c0) : FnOk P w K mg base CX0 7 T.f_best_lot T.fd_best_lot ["pool", "worths"] (Zst2.spT K [(P0, lamQ)] 2 (g_best_lot T.c)) := by
  have G_find_walk := ok_find_walk (P := P) (w := w) (base := base) T
  obtain ⟨ds_find_walk, hd_find_walk, hb_find_walk⟩ := T.b_find_walk
  have G_take_walk := ok_take_walk (P := P) (w := w) (base := base) T
  refine Zst2.fnTO (m := 5) T.F_best_lot sc_best_lot rfl rfl (fun cdv hcd A outer s H E hr => ?_)
  have hu := hr.units
  have e : cdv = .ref c0 := hcd.symm.trans hc0
  subst e
  refine ⟨_, (pss_cons (ps_set (i := 2) sc_best_lot.nd rfl (by first | exact Or.inl rfl | exact Or.inr rfl) (pe_op op_mulA (pe_lst (pa_cons pe_non pa_nil)) (pe_fld (pv 0) rfl)))
 (pss_cons (ps_for PassesOwn.never rfl (pi_seq (Zsl.pe_sortKR (T := [(P0, lamQ)]) (k := 1) (j := 5) (c := c0) (P := P0) (tb := tTup (tCons (tUn (rU fun i => .int (-i)) (tOp (rIx K) (tVar 1) (tVar 5))) (tCons (tVar 5) tNil))) rfl (hr.mono (by decide)) (by rfl) T.m_sorted (by rfl) T.m_range (pe_fld (pv 0) rfl) TB rfl (List.mem_singleton.mpr (by rfl)) (fun p hp _ => by rw [List.mem_singleton.mp hp]; rfl) (by rfl) ?lam (fun _ _ _ _ _ => by rfl) ?bod)) (pg_name (i := 3) sc_best_lot.nd rfl (by first | exact Or.inl rfl | exact Or.inr rfl))
 (pss_cons (ps_set (i := 4) sc_best_lot.nd rfl (by first | exact Or.inl rfl | exact Or.inr rfl) (pe_callK G_find_walk (hr.mono (by decide)) (by rfl) T.g_find_walk T.F_find_walk.kp T.kb_find_walk pass0 (pa_cons (pv 0) (pa_cons (pv 2) pa_nil)) (pk_cons (pe_lst (pa_cons (pv 3) pa_nil)) pk_nil)))
 (pss_one (ps_if (pt_cmpR op_notN (pv 4) pe_non (nomark _))
 (pss_one (ps_set (i := 2) sc_best_lot.nd rfl (by first | exact Or.inl rfl | exact Or.inr rfl) (pe_call G_take_walk (hr.mono (by decide)) (by rfl) T.g_take_walk T.F_take_walk.kp T.b_take_walk .nil pass0 (pa_cons (pv 2) (pa_cons (pv 4) pa_nil)))))
 pss_nil))))
 (pss_one (ps_ret (pe_lc (own := [("piece", 3), ("pair", 6)]) (g := (gTup K 2 (gCons (gName 3) (gCons (gName 6) gNil)))) (tt := (tTest (tOp _ (tVar 6) (tC .non)))) (te := (tVar 3)) rfl sc_best_lot.nd (TS.pi_enumA (by rfl) T.m_enumerate (pa_cons (pv 2) pa_nil)) (blkOk_by (N := N_best_lot) (sc := defScope s_best_lot) (by decide +kernel)) (fun _ _ _ _ _ => (pg_tup rfl (pgs_cons (pg_name (i := 3) sc_best_lot.nd rfl (by first | exact Or.inl rfl | exact Or.inr rfl)) (pgs_cons (pg_name (i := 6) sc_best_lot.nd rfl (by first | exact Or.inl rfl | exact Or.inr rfl)) pgs_nil)))) (fun _ _ _ _ _ => (pts_one (pt_cmpR op_notN (pv 6) pe_non (nomark _)))) (fun _ _ _ _ _ => (pv 3))))))), ?data⟩
  case lam =>
    intro ok
    show Zsl.LamP N_best_lot (defScope s_best_lot) _ "other" 5
    exact ⟨rfl, rfl, rfl, by decide +kernel, by decide +kernel, by decide +kernel, rfl, fun i h => by
      match i, h with
      | 0, h => exact absurd h (by decide)
      | 1, h => exact absurd h (by decide)
      | 2, h => exact absurd h (by decide)
      | 3, h => exact absurd h (by decide)
      | 4, h => exact absurd h (by decide)
      | 5, _ => rfl
      | 6, h => exact absurd h (by decide)
      | i + 7, h => simp at h⟩
  case bod =>
    intro f c' A outer s H hr
    exact pe_tup (pa_cons (pe_un un_neg (pe_ix ix_seq (pv 1) (pv 5) (fun _ _ => rfl))) (pa_cons (pv 5) pa_nil))
  case data =>  exact ((Zst2.srt_seq (Zst2.srt_of (sr_asg (er_2 rr_mul (er_lst (ar_cons er_non ar_nil)) (er_fld T.cl_Pool T.n_Pool_pieces (er_var 0))) (gr'_name 2)))
 (Zst2.srt_seq (Zst2.srt_for (Zst2.irt_lst (Zst2.ert_of_eot (Zst2.eot_sortK (er_fld T.cl_Pool T.n_Pool_pieces (er_var 0)) (er_tup (ar_cons (er_1 ru_neg (er_2 rr_ix (er_var 1) (er_var 5))) (ar_cons (er_var 5) ar_nil)))))) (gr'_name 3)
 (Zst2.srt_of (sr_seq (sr_asg (er_callK (n := 2) (m := 1) rfl (ar_cons (er_var 0) (ar_cons (er_var 2) ar_nil)) (ar_cons (er_lst (ar_cons (er_var 3) ar_nil)) ar_nil)) (gr'_name 4))
 (sr_if (tr_test (er_2 rr_isnt (er_var 4) er_non))
 (sr_asg (er_call (ar_cons (er_var 2) (ar_cons (er_var 4) ar_nil))) (gr'_name 2))
 sr_next))))
 (Zst2.srt_of (sr_retO (eo_lc (vs := [3, 6]) (ir_enum (ar_cons (er_var 2) ar_nil)) (grc_tup2 (i := 3) (j := 6) (by decide) (by decide)) (tr_test (er_2 rr_isnt (er_var 6) er_non)) (er_var 3)))))) : Zst2.SRT K [(P0, lamQ)] _ (t_best_lot T.c))
theorem sc_law_cell : FnScope N_law_cell ["script", "k"] (defScope s_law_cell) := ⟨rfl, rfl, rfl, by decide +kernel, rfl, by decide +kernel, by decide +kernel⟩
theorem ok_law_cell (T : Txt K mg) : FnOk P w K mg base CX0 1 T.f_law_cell T.fd_law_cell ["script", "k"] (spG K 2 (g_law_cell)) := by
  refine fnG (m := 0) T.F_law_cell sc_law_cell rfl rfl (fun cdv A outer s H E hr => ?_)
  have hu := hr.units
  refine ⟨_, (pss_cons (ps_if (pt_cmpR op_lt (pv 1) (pe_callB call_lenA (by rfl) T.m_len bt_len (pa_cons (pv 0) pa_nil)) (nomark _))
 (pss_one (ps_ret (pe_ix ix_seq (pv 0) (pv 1) (fun _ _ => rfl))))
 pss_nil)
 (pss_one (ps_ret pe_int))), ?_⟩
  exact ((sr_seq (sr_if (tr_test (er_2 rr_lt (er_var 1) (er_n rc_len (ar_cons (er_var 0) ar_nil))))
 (sr_ret (er_2 rr_ix (er_var 0) (er_var 1)))
 sr_next)
 (sr_ret er_int)) : SR K _ (t_law_cell))
theorem sc_law_draws : FnScope N_law_draws ["cell", "sizes"] (defScope s_law_draws) := ⟨rfl, rfl, rfl, by decide +kernel, rfl, by decide +kernel, by decide +kernel⟩
theorem ok_law_draws (T : Txt K mg) : FnOk P w K mg base CX0 1 T.f_law_draws T.fd_law_draws ["cell", "sizes"] (spG K 2 (g_law_draws)) := by
  refine fnG (m := 6) T.F_law_draws sc_law_draws rfl rfl (fun cdv A outer s H E hr => ?_)
  have hu := hr.units
  refine ⟨_, (pss_cons (ps_set (i := 2) sc_law_draws.nd rfl (by first | exact Or.inl rfl | exact Or.inr rfl) (pe_callB call_abs (by rfl) T.m_abs bt_abs (pa_cons (pe_callTy call_int1 (by rfl) T.m_int bt_int (pa_cons (pv 0) pa_nil)) pa_nil)))
 (pss_cons (ps_set (i := 3) sc_law_draws.nd rfl (by first | exact Or.inl rfl | exact Or.inr rfl) (pe_cmpR op_ge (pv 2) (pe_op op_pow pe_int pe_int) (nomark _)))
 (pss_cons (ps_set (i := 4) sc_law_draws.nd rfl (by first | exact Or.inl rfl | exact Or.inr rfl) (pe_lst pa_nil))
 (pss_cons (ps_for PassesOwn.never rfl (pi_range1 (by rfl) T.m_range (pa_cons (pe_callB call_lenA (by rfl) T.m_len bt_len (pa_cons (pv 1) pa_nil)) pa_nil)) (pg_name (i := 5) sc_law_draws.nd rfl (by first | exact Or.inl rfl | exact Or.inr rfl))
 (pss_cons (ps_set (i := 6) sc_law_draws.nd rfl (by first | exact Or.inl rfl | exact Or.inr rfl) (pe_ix ix_seq (pv 1) (pv 5) (fun _ _ => rfl)))
 (pss_one (ps_if ((pw_and (pt_truth (pv 3) (fun _ => rfl)) (pw_and1 (pt_cmpR op_gt (pv 2) pe_int (nomark _))))).pt
 (pss_cons (ps_expr (pe_bm PySem.F.plainAttrs_list PySem.F.slot_list_append PySem.F.type_list_append mt_append (pv 4) (pa_cons (pe_op op_mod (pe_callTy call_int1 (by rfl) T.m_int bt_int (pa_cons (pv 2) pa_nil)) (pv 6)) pa_nil)))
 (pss_one (ps_set (i := 2) sc_law_draws.nd rfl (by first | exact Or.inl rfl | exact Or.inr rfl) (pe_op op_fdivW (pv 2) (pv 6)))))
 (pss_cons (ps_set (i := 7) sc_law_draws.nd rfl (by first | exact Or.inl rfl | exact Or.inr rfl) (pe_op op_mod (pe_callTy call_int1 (by rfl) T.m_int bt_int (pa_cons (pe_op op_addA (pe_op op_addA (pe_callB call_abs (by rfl) T.m_abs bt_abs (pa_cons (pe_callTy call_int1 (by rfl) T.m_int bt_int (pa_cons (pv 0) pa_nil)) pa_nil)) (pe_op op_mulA pe_int (pv 5))) pe_int) pa_nil)) pe_int))
 (pss_cons (ps_set (i := 7) sc_law_draws.nd rfl (by first | exact Or.inl rfl | exact Or.inr rfl) (pe_op op_mod (pe_callTy call_int1 (by rfl) T.m_int bt_int (pa_cons (pe_op op_mulA (pv 7) (pe_op op_addA (pv 7) pe_int)) pa_nil)) pe_int))
 (pss_cons (ps_set (i := 7) sc_law_draws.nd rfl (by first | exact Or.inl rfl | exact Or.inr rfl) (pe_op op_mod (pe_callTy call_int1 (by rfl) T.m_int bt_int (pa_cons (pe_op op_addA (pe_op op_mulA (pv 7) (pe_op op_addA (pv 7) pe_int)) (pe_op op_mulA pe_int (pv 5))) pa_nil)) pe_int))
 (pss_one (ps_expr (pe_bm PySem.F.plainAttrs_list PySem.F.slot_list_append PySem.F.type_list_append mt_append (pv 4) (pa_cons (pe_op op_mod (pe_callTy call_int1 (by rfl) T.m_int bt_int (pa_cons (pe_op op_fdivW (pv 7) pe_int) pa_nil)) (pv 6)) pa_nil)))))))))))
 (pss_one (ps_ret (pv 4))))))), ?_⟩
  exact ((sr_seq (sr_asg (er_n rc_abs (ar_cons (er_n rc_int (ar_cons (er_var 0) ar_nil)) ar_nil)) (gr'_name 2))
 (sr_seq (sr_asg (er_2 rr_ge (er_var 2) (er_2 rr_pow er_int er_int)) (gr'_name 3))
 (sr_seq (sr_asgO (eo_lst ar_nil))
 (sr_seq (sr_for (ir_rng1 (ar_cons (er_n rc_len (ar_cons (er_var 1) ar_nil)) ar_nil)) (gr'_name 5)
 (sr_seq (sr_asg (er_2 rr_ix (er_var 1) (er_var 5)) (gr'_name 6))
 (sr_if (tr_and (tr_tru (er_var 3)) (tr_test (er_2 rr_gt (er_var 2) er_int)))
 (sr_seq (sr_app (i := 4) (er_2 rr_mod (er_n rc_int (ar_cons (er_var 2) ar_nil)) (er_var 6)))
 (sr_asg (er_2 rr_fdiv (er_var 2) (er_var 6)) (gr'_name 2)))
 (sr_seq (sr_asg (er_2 rr_mod (er_n rc_int (ar_cons (er_2 rr_add (er_2 rr_add (er_n rc_abs (ar_cons (er_n rc_int (ar_cons (er_var 0) ar_nil)) ar_nil)) (er_2 rr_mul er_int (er_var 5))) er_int) ar_nil)) er_int) (gr'_name 7))
 (sr_seq (sr_asg (er_2 rr_mod (er_n rc_int (ar_cons (er_2 rr_mul (er_var 7) (er_2 rr_add (er_var 7) er_int)) ar_nil)) er_int) (gr'_name 7))
 (sr_seq (sr_asg (er_2 rr_mod (er_n rc_int (ar_cons (er_2 rr_add (er_2 rr_mul (er_var 7) (er_2 rr_add (er_var 7) er_int)) (er_2 rr_mul er_int (er_var 5))) ar_nil)) er_int) (gr'_name 7))
 (sr_app (i := 4) (er_2 rr_mod (er_n rc_int (ar_cons (er_2 rr_fdiv (er_var 7) er_int) ar_nil)) (er_var 6)))))))))
 (sr_retV 4))))) : SR K _ (t_law_draws))
theorem sc_law_bits : FnScope N_law_bits ["mask", "count"] (defScope s_law_bits) := ⟨rfl, rfl, rfl, by decide +kernel, rfl, by decide +kernel, by decide +kernel⟩
theorem ok_law_bits (T : Txt K mg) : FnOk P w K mg base CX0 1 T.f_law_bits T.fd_law_bits ["mask", "count"] (spG K 2 (g_law_bits)) := by
  refine fnG (m := 1) T.F_law_bits sc_law_bits rfl rfl (fun cdv A outer s H E hr => ?_)
  have hu := hr.units
  refine ⟨_, (pss_one (ps_ret (pe_lc (own := [("k", 2)]) (g := (gName 2)) (tt := (tTest (tOp (rEqD K) (tOp _ (tCB _ (tCons (tOp _ (tVar 0) (tOp (rIx K) (tTup (tCons (tC (.int 1)) (tCons (tC (.int 2)) (tCons (tC (.int 4)) (tCons (tC (.int 8)) (tCons (tC (.int 16)) (tCons (tC (.int 32)) (tCons (tC (.int 64)) tNil)))))))) (tVar 2))) tNil)) (tC (.int 2))) (tC (.int 1))))) (te := (tVar 2)) rfl sc_law_bits.nd (pi_range1 (by rfl) T.m_range (pa_cons (pv 1) pa_nil)) (blkOk_by (N := N_law_bits) (sc := defScope s_law_bits) (by decide +kernel)) (fun _ _ _ _ _ => (pg_name (i := 2) sc_law_bits.nd rfl (by first | exact Or.inl rfl | exact Or.inr rfl))) (fun _ _ _ _ _ => (pts_one (pt_cmpR (op_eqD hu) (pe_op op_mod (pe_callTy call_int1 (by rfl) T.m_int bt_int (pa_cons (pe_op op_fdivW (pv 0) (pe_ix ix_seq (pe_tup (pa_cons pe_int (pa_cons pe_int (pa_cons pe_int (pa_cons pe_int (pa_cons pe_int (pa_cons pe_int (pa_cons pe_int pa_nil)))))))) (pv 2) (fun _ _ => rfl))) pa_nil)) pe_int) pe_int (nomark _)))) (fun _ _ _ _ _ => (pv 2))))), ?_⟩
  exact ((sr_retO (eo_lc (vs := [2]) (ir_rng1 (ar_cons (er_var 1) ar_nil)) (grc_name (j := 2) (by decide)) (tr_test (er_2 rr_eq (er_2 rr_mod (er_n rc_int (ar_cons (er_2 rr_fdiv (er_var 0) (er_2 rr_ix (er_tup (ar_cons er_int (ar_cons er_int (ar_cons er_int (ar_cons er_int (ar_cons er_int (ar_cons er_int (ar_cons er_int ar_nil)))))))) (er_var 2))) ar_nil)) er_int) er_int)) (er_var 2))) : SR K _ (t_law_bits))
theorem sc_law_pairs : FnScope N_law_pairs ["seats"] (defScope s_law_pairs) := ⟨rfl, rfl, rfl, by decide +kernel, rfl, by decide +kernel, by decide +kernel⟩
theorem ok_law_pairs (T : Txt K mg) : FnOk P w K mg base CX0 1 T.f_law_pairs T.fd_law_pairs ["seats"] (spG K 1 (g_law_pairs)) := by
  refine fnG (m := 3) T.F_law_pairs sc_law_pairs rfl rfl (fun cdv A outer s H E hr => ?_)
  have hu := hr.units
  refine ⟨_, (pss_cons (ps_set (i := 1) sc_law_pairs.nd rfl (by first | exact Or.inl rfl | exact Or.inr rfl) (pe_lst pa_nil))
 (pss_cons (ps_for PassesOwn.never rfl (pi_range1 (by rfl) T.m_range (pa_cons (pv 0) pa_nil)) (pg_name (i := 2) sc_law_pairs.nd rfl (by first | exact Or.inl rfl | exact Or.inr rfl))
 (pss_one (ps_for PassesOwn.never rfl (pi_range2 (by rfl) T.m_range (pa_cons (pe_op op_addA (pv 2) pe_int) (pa_cons (pv 0) pa_nil))) (pg_name (i := 3) sc_law_pairs.nd rfl (by first | exact Or.inl rfl | exact Or.inr rfl))
 (pss_one (ps_expr (pe_bm PySem.F.plainAttrs_list PySem.F.slot_list_append PySem.F.type_list_append mt_append (pv 1) (pa_cons (pe_tup (pa_cons (pv 2) (pa_cons (pv 3) pa_nil))) pa_nil)))))))
 (pss_one (ps_ret (pv 1))))), ?_⟩
  exact ((sr_seq (sr_asgO (eo_lst ar_nil))
 (sr_seq (sr_for (ir_rng1 (ar_cons (er_var 0) ar_nil)) (gr'_name 2)
 (sr_for (ir_rng2 (ar_cons (er_2 rr_add (er_var 2) er_int) (ar_cons (er_var 0) ar_nil))) (gr'_name 3)
 (sr_app (i := 1) (er_tup (ar_cons (er_var 2) (ar_cons (er_var 3) ar_nil))))))
 (sr_retV 1))) : SR K _ (t_law_pairs))
theorem sc_law_pool : FnScope N_law_pool ["cell", "most"] (defScope s_law_pool) := ⟨rfl, rfl, rfl, by decide +kernel, rfl, by decide +kernel, by decide +kernel⟩
theorem ok_law_pool (T : Txt K mg) : FnOk P w K mg base CX0 2 T.f_law_pool T.fd_law_pool ["cell", "most"] (spG K 2 (g_law_pool)) := by
  have G_law_draws := ok_law_draws (P := P) (w := w) (base := base) T
  have G_law_pairs := ok_law_pairs (P := P) (w := w) (base := base) T
  have G_law_bits := ok_law_bits (P := P) (w := w) (base := base) T
  refine fnG (m := 9) T.F_law_pool sc_law_pool rfl rfl (fun cdv A outer s H E hr => ?_)
  have hu := hr.units
  refine ⟨_, (pss_cons (ps_set (i := 2) sc_law_pool.nd rfl (by first | exact Or.inl rfl | exact Or.inr rfl) (pe_call G_law_draws (hr.mono (by decide)) (by rfl) T.g_law_draws T.F_law_draws.kp T.b_law_draws .nil pass0 (pa_cons (pv 0) (pa_cons (pe_op op_addA (pe_op op_addA (pe_op op_addA (pe_lst (pa_cons pe_int (pa_cons (pe_op op_addA (pv 1) pe_int) (pa_cons pe_int pa_nil)))) (pe_op op_mulA (pe_lst (pa_cons pe_int pa_nil)) pe_int)) (pe_op op_mulA (pe_lst (pa_cons pe_int pa_nil)) pe_int)) (pe_op op_mulA (pe_lst (pa_cons pe_int pa_nil)) pe_int)) pa_nil))))
 (pss_cons (ps_set (i := 3) sc_law_pool.nd rfl (by first | exact Or.inl rfl | exact Or.inr rfl) (pe_op op_addA (pe_ix ix_seq (pv 2) pe_int (fun _ _ => rfl)) pe_int))
 (pss_cons (ps_set (i := 4) sc_law_pool.nd rfl (by first | exact Or.inl rfl | exact Or.inr rfl) (pe_lc (own := [("k", 10)]) (g := (gName 10)) (tt := tYes) (te := (tOp (rIx K) (tTup (tCons (tC (.int 0)) (tCons (tC (.int 1)) (tCons (tC (.int 1)) (tCons (tC (.int 2)) (tCons (tC (.int 3)) (tCons (tOp _ (tOp _ (tC (.int 10)) (tC (.int 12))) (tVar 10)) tNil))))))) (tOp (rIx K) (tVar 2) (tOp _ (tC (.int 3)) (tVar 10))))) rfl sc_law_pool.nd (pi_range1 (by rfl) T.m_range (pa_cons (pv 3) pa_nil)) (blkOk_by (N := N_law_pool) (sc := defScope s_law_pool) (by decide +kernel)) (fun _ _ _ _ _ => (pg_name (i := 10) sc_law_pool.nd rfl (by first | exact Or.inl rfl | exact Or.inr rfl))) (fun _ _ _ _ _ => pts_nil) (fun _ _ _ _ _ => (pe_ix ix_seq (pe_tup (pa_cons pe_int (pa_cons pe_int (pa_cons pe_int (pa_cons pe_int (pa_cons pe_int (pa_cons (pe_op op_addA (pe_op op_pow pe_int pe_int) (pv 10)) pa_nil))))))) (pe_ix ix_seq (pv 2) (pe_op op_addA pe_int (pv 10)) (fun _ _ => rfl)) (fun _ _ => rfl)))))
 (pss_cons (ps_set (i := 5) sc_law_pool.nd rfl (by first | exact Or.inl rfl | exact Or.inr rfl) (pe_call G_law_pairs (hr.mono (by decide)) (by rfl) T.g_law_pairs T.F_law_pairs.kp T.b_law_pairs .nil pass0 (pa_cons (pv 3) pa_nil)))
 (pss_cons (ps_set (i := 6) sc_law_pool.nd rfl (by first | exact Or.inl rfl | exact Or.inr rfl) (pe_lst pa_nil))
 (pss_cons (ps_for PassesOwn.never rfl (pi_range1 (by rfl) T.m_range (pa_cons (pe_ix ix_seq (pv 2) pe_int (fun _ _ => rfl)) pa_nil)) (pg_name (i := 7) sc_law_pool.nd rfl (by first | exact Or.inl rfl | exact Or.inr rfl))
 (pss_cons (ps_set (i := 8) sc_law_pool.nd rfl (by first | exact Or.inl rfl | exact Or.inr rfl) (pe_call G_law_bits (hr.mono (by decide)) (by rfl) T.g_law_bits T.F_law_bits.kp T.b_law_bits .nil pass0 (pa_cons (pe_ix ix_seq (pv 2) (pe_op op_addA pe_int (pv 7)) (fun _ _ => rfl)) (pa_cons (pv 3) pa_nil))))
 (pss_cons (ps_if ((pw_and (pt_cmpR (op_eqD hu) (pe_ix ix_seq (pv 2) pe_int (fun _ _ => rfl)) pe_int (nomark _)) (pw_and1 (pt_cmpR op_gt (pe_callB call_lenA (by rfl) T.m_len bt_len (pa_cons (pv 5) pa_nil)) pe_int (nomark _))))).pt
 (pss_cons (ps_set (i := 9) sc_law_pool.nd rfl (by first | exact Or.inl rfl | exact Or.inr rfl) (pe_ix ix_seq (pv 5) (pe_op op_mod (pe_callTy call_int1 (by rfl) T.m_int bt_int (pa_cons (pe_ix ix_seq (pv 2) (pe_op op_addA pe_int (pv 7)) (fun _ _ => rfl)) pa_nil)) (pe_callB call_lenA (by rfl) T.m_len bt_len (pa_cons (pv 5) pa_nil))) (fun _ _ => rfl)))
 (pss_one (ps_set (i := 8) sc_law_pool.nd rfl (by first | exact Or.inl rfl | exact Or.inr rfl) (pe_lc (own := [("k", 10)]) (g := (gName 10)) (tt := (tOr (tTest (tOp (rIn K false) (tVar 10) (tVar 8))) (tTest (tOp (rIn K false) (tVar 10) (tVar 9))))) (te := (tVar 10)) rfl sc_law_pool.nd (pi_range1 (by rfl) T.m_range (pa_cons (pv 3) pa_nil)) (blkOk_by (N := N_law_pool) (sc := defScope s_law_pool) (by decide +kernel)) (fun _ _ _ _ _ => (pg_name (i := 10) sc_law_pool.nd rfl (by first | exact Or.inl rfl | exact Or.inr rfl))) (fun _ _ _ _ _ => (pts_one ((pw_or (pt_cmpR op_in_seq (pv 10) (pv 8) (by rfl)) (pw_or1 (pt_cmpR op_in_seq (pv 10) (pv 9) (by rfl))))).pt)) (fun _ _ _ _ _ => (pv 10))))))
 pss_nil)
 (pss_cons (ps_if ((pw_and (pt_cmpR (op_eqD hu) (pe_ix ix_seq (pv 2) pe_int (fun _ _ => rfl)) pe_int (nomark _)) (pw_and1 (pt_cmpR op_gt (pe_callB call_lenA (by rfl) T.m_len bt_len (pa_cons (pv 5) pa_nil)) pe_int (nomark _))))).pt
 (pss_one (ps_set (i := 8) sc_law_pool.nd rfl (by first | exact Or.inl rfl | exact Or.inr rfl) (pe_callTy call_list_of (by rfl) T.m_list bt_list (pa_cons (pe_ix ix_seq (pv 5) (pe_op op_mod (pe_callTy call_int1 (by rfl) T.m_int bt_int (pa_cons (pe_ix ix_seq (pv 2) (pe_op op_addA pe_int (pv 7)) (fun _ _ => rfl)) pa_nil)) (pe_callB call_lenA (by rfl) T.m_len bt_len (pa_cons (pv 5) pa_nil))) (fun _ _ => rfl)) pa_nil))))
 pss_nil)
 (pss_cons (ps_if (pt_cmpR (op_eqD hu) (pe_ix ix_seq (pv 2) pe_int (fun _ _ => rfl)) pe_int (nomark _))
 (pss_one (ps_set (i := 8) sc_law_pool.nd rfl (by first | exact Or.inl rfl | exact Or.inr rfl) (pe_call G_law_bits (hr.mono (by decide)) (by rfl) T.g_law_bits T.F_law_bits.kp T.b_law_bits .nil pass0 (pa_cons (pe_ix ix_seq (pv 2) (pe_op op_addA pe_int (pe_op op_fdivW (pv 7) pe_int)) (fun _ _ => rfl)) (pa_cons (pv 3) pa_nil)))))
 pss_nil)
 (pss_one (ps_expr (pe_bm PySem.F.plainAttrs_list PySem.F.slot_list_append PySem.F.type_list_append mt_append (pv 6) (pa_cons (pv 8) pa_nil)))))))))
 (pss_cons (ps_if (pt_cmpR (op_eqD hu) (pe_ix ix_seq (pv 2) pe_int (fun _ _ => rfl)) pe_int (nomark _))
 (pss_one (ps_set (i := 4) sc_law_pool.nd rfl (by first | exact Or.inl rfl | exact Or.inr rfl) (pe_lc (own := [("k", 10)]) (g := (gName 10)) (tt := tYes) (te := (tOp (rIx K) (tVar 4) (tC (.int 0)))) rfl sc_law_pool.nd (pi_range1 (by rfl) T.m_range (pa_cons (pv 3) pa_nil)) (blkOk_by (N := N_law_pool) (sc := defScope s_law_pool) (by decide +kernel)) (fun _ _ _ _ _ => (pg_name (i := 10) sc_law_pool.nd rfl (by first | exact Or.inl rfl | exact Or.inr rfl))) (fun _ _ _ _ _ => pts_nil) (fun _ _ _ _ _ => (pe_ix ix_seq (pv 4) pe_int (fun _ _ => rfl))))))
 pss_nil)
 (pss_one (ps_ret (pe_tup (pa_cons (pv 4) (pa_cons (pv 6) pa_nil)))))))))))), ?_⟩
  exact ((sr_seq (sr_asg (er_call (ar_cons (er_var 0) (ar_cons (er_2 rr_add (er_2 rr_add (er_2 rr_add (er_lst (ar_cons er_int (ar_cons (er_2 rr_add (er_var 1) er_int) (ar_cons er_int ar_nil)))) (er_2 rr_mul (er_lst (ar_cons er_int ar_nil)) er_int)) (er_2 rr_mul (er_lst (ar_cons er_int ar_nil)) er_int)) (er_2 rr_mul (er_lst (ar_cons er_int ar_nil)) er_int)) ar_nil))) (gr'_name 2))
 (sr_seq (sr_asg (er_2 rr_add (er_2 rr_ix (er_var 2) er_int) er_int) (gr'_name 3))
 (sr_seq (sr_asg (er_of_eo (eo_lc (vs := [10]) (ir_rng1 (ar_cons (er_var 3) ar_nil)) (grc_name (j := 10) (by decide)) tr_yes (er_2 rr_ix (er_tup (ar_cons er_int (ar_cons er_int (ar_cons er_int (ar_cons er_int (ar_cons er_int (ar_cons (er_2 rr_add (er_2 rr_pow er_int er_int) (er_var 10)) ar_nil))))))) (er_2 rr_ix (er_var 2) (er_2 rr_add er_int (er_var 10)))))) (gr'_name 4))
 (sr_seq (sr_asg (er_call (ar_cons (er_var 3) ar_nil)) (gr'_name 5))
 (sr_seq (sr_asgO (eo_lst ar_nil))
 (sr_seq (sr_for (ir_rng1 (ar_cons (er_2 rr_ix (er_var 2) er_int) ar_nil)) (gr'_name 7)
 (sr_seq (sr_asg (er_call (ar_cons (er_2 rr_ix (er_var 2) (er_2 rr_add er_int (er_var 7))) (ar_cons (er_var 3) ar_nil))) (gr'_name 8))
 (sr_seq (sr_if (tr_and (tr_test (er_2 rr_eq (er_2 rr_ix (er_var 2) er_int) er_int)) (tr_test (er_2 rr_gt (er_n rc_len (ar_cons (er_var 5) ar_nil)) er_int)))
 (sr_seq (sr_asg (er_2 rr_ix (er_var 5) (er_2 rr_mod (er_n rc_int (ar_cons (er_2 rr_ix (er_var 2) (er_2 rr_add er_int (er_var 7))) ar_nil)) (er_n rc_len (ar_cons (er_var 5) ar_nil)))) (gr'_name 9))
 (sr_asg (er_of_eo (eo_lc (vs := [10]) (ir_rng1 (ar_cons (er_var 3) ar_nil)) (grc_name (j := 10) (by decide)) (tr_or (tr_test (er_2 rr_in (er_var 10) (er_var 8))) (tr_test (er_2 rr_in (er_var 10) (er_var 9)))) (er_var 10))) (gr'_name 8)))
 sr_next)
 (sr_seq (sr_if (tr_and (tr_test (er_2 rr_eq (er_2 rr_ix (er_var 2) er_int) er_int)) (tr_test (er_2 rr_gt (er_n rc_len (ar_cons (er_var 5) ar_nil)) er_int)))
 (sr_asg (er_n rc_list (ar_cons (er_2 rr_ix (er_var 5) (er_2 rr_mod (er_n rc_int (ar_cons (er_2 rr_ix (er_var 2) (er_2 rr_add er_int (er_var 7))) ar_nil)) (er_n rc_len (ar_cons (er_var 5) ar_nil)))) ar_nil)) (gr'_name 8))
 sr_next)
 (sr_seq (sr_if (tr_test (er_2 rr_eq (er_2 rr_ix (er_var 2) er_int) er_int))
 (sr_asg (er_call (ar_cons (er_2 rr_ix (er_var 2) (er_2 rr_add er_int (er_2 rr_fdiv (er_var 7) er_int))) (ar_cons (er_var 3) ar_nil))) (gr'_name 8))
 sr_next)
 (sr_app (i := 6) (er_var 8)))))))
 (sr_seq (sr_if (tr_test (er_2 rr_eq (er_2 rr_ix (er_var 2) er_int) er_int))
 (sr_asg (er_of_eo (eo_lc (vs := [10]) (ir_rng1 (ar_cons (er_var 3) ar_nil)) (grc_name (j := 10) (by decide)) tr_yes (er_2 rr_ix (er_var 4) er_int))) (gr'_name 4))
 sr_next)
 (sr_frz [6] (sr_ret (er_tup (ar_cons (er_var 4) (ar_cons (er_var 6) ar_nil)))))))))))) : SR K _ (t_law_pool))
theorem sc_law_lots : FnScope N_law_lots ["count"] (defScope s_law_lots) := ⟨rfl, rfl, rfl, by decide +kernel, rfl, by decide +kernel, by decide +kernel⟩
theorem ok_law_lots (T : Txt K mg) : FnOk P w K mg base CX0 1 T.f_law_lots T.fd_law_lots ["count"] (spG K 1 (g_law_lots)) := by
  refine fnG (m := 3) T.F_law_lots sc_law_lots rfl rfl (fun cdv A outer s H E hr => ?_)
  have hu := hr.units
  refine ⟨_, (pss_cons (ps_set (i := 1) sc_law_lots.nd rfl (by first | exact Or.inl rfl | exact Or.inr rfl) (pe_lst (pa_cons (pe_lst pa_nil) pa_nil)))
 (pss_cons (ps_for PassesOwn.never rfl (pi_range1 (by rfl) T.m_range (pa_cons (pv 0) pa_nil)) (pg_name (i := 2) sc_law_lots.nd rfl (by first | exact Or.inl rfl | exact Or.inr rfl))
 (pss_one (ps_set (i := 1) sc_law_lots.nd rfl (by first | exact Or.inl rfl | exact Or.inr rfl) (pe_op op_addA (pv 1) (pe_lc (own := [("lot", 3)]) (g := (gName 3)) (tt := tYes) (te := (tOp _ (tVar 3) (tLst (tCons (tVar 2) tNil)))) rfl sc_law_lots.nd (pi_seq (pv 1)) (blkOk_by (N := N_law_lots) (sc := defScope s_law_lots) (by decide +kernel)) (fun _ _ _ _ _ => (pg_name (i := 3) sc_law_lots.nd rfl (by first | exact Or.inl rfl | exact Or.inr rfl))) (fun _ _ _ _ _ => pts_nil) (fun _ _ _ _ _ => (pe_op op_addA (pv 3) (pe_lst (pa_cons (pv 2) pa_nil)))))))))
 (pss_one (ps_ret (pv 1))))), ?_⟩
  exact ((sr_seq (sr_asg (er_lst (ar_cons (er_lst ar_nil) ar_nil)) (gr'_name 1))
 (sr_seq (sr_for (ir_rng1 (ar_cons (er_var 0) ar_nil)) (gr'_name 2)
 (sr_asg (er_2 rr_add (er_var 1) (er_of_eo (eo_lc (vs := [3]) (ir_seq (er_var 1)) (grc_name (j := 3) (by decide)) tr_yes (er_2 rr_add (er_var 3) (er_lst (ar_cons (er_var 2) ar_nil)))))) (gr'_name 1)))
 (sr_ret (er_var 1)))) : SR K _ (t_law_lots))
theorem sc_law_places : FnScope N_law_places ["caps", "holders", "lot"] (defScope s_law_places) := ⟨rfl, rfl, rfl, by decide +kernel, rfl, by decide +kernel, by decide +kernel⟩
theorem ok_law_places (T : Txt K mg) : FnOk P w K mg base CX0 2 T.f_law_places T.fd_law_places ["caps", "holders", "lot"] (spG K 3 (g_law_places)) := by
  have G_law_pairs := ok_law_pairs (P := P) (w := w) (base := base) T
  refine fnG (m := 3) T.F_law_places sc_law_places rfl rfl (fun cdv A outer s H E hr => ?_)
  have hu := hr.units
  refine ⟨_, (pss_cons (ps_set (i := 3) sc_law_places.nd rfl (by first | exact Or.inl rfl | exact Or.inr rfl) pe_int)
 (pss_cons (ps_for PassesOwn.never rfl (pi_seq (pe_call G_law_pairs (hr.mono (by decide)) (by rfl) T.g_law_pairs T.F_law_pairs.kp T.b_law_pairs .nil pass0 (pa_cons (pe_callB call_lenA (by rfl) T.m_len bt_len (pa_cons (pv 0) pa_nil)) pa_nil))) (pg_name (i := 4) sc_law_places.nd rfl (by first | exact Or.inl rfl | exact Or.inr rfl))
 (pss_one (ps_for PassesOwn.never rfl (pi_seq (pv 2)) (pg_name (i := 5) sc_law_places.nd rfl (by first | exact Or.inl rfl | exact Or.inr rfl))
 (pss_one (ps_if ((pw_and (pt_cmpR op_in_seq (pe_ix ix_seq (pv 4) pe_int (fun _ _ => rfl)) (pe_ix ix_seq (pv 1) (pv 5) (fun _ _ => rfl)) (by rfl)) (pw_and1 (pt_cmpR op_in_seq (pe_ix ix_seq (pv 4) pe_int (fun _ _ => rfl)) (pe_ix ix_seq (pv 1) (pv 5) (fun _ _ => rfl)) (by rfl))))).pt
 (pss_cons (ps_set (i := 3) sc_law_places.nd rfl (by first | exact Or.inl rfl | exact Or.inr rfl) (pe_op op_addA (pv 3) (pe_callB (call_minA rfl) (by rfl) T.m_min bt_min (pa_cons (pe_ix ix_seq (pv 0) (pe_ix ix_seq (pv 4) pe_int (fun _ _ => rfl)) (fun _ _ => rfl)) (pa_cons (pe_ix ix_seq (pv 0) (pe_ix ix_seq (pv 4) pe_int (fun _ _ => rfl)) (fun _ _ => rfl)) pa_nil)))))
 (pss_one ps_break))
 pss_nil)))))
 (pss_one (ps_ret (pv 3))))), ?_⟩
  exact ((sr_seq (sr_asg er_int (gr'_name 3))
 (sr_seq (sr_for (ir_seq (er_call (ar_cons (er_n rc_len (ar_cons (er_var 0) ar_nil)) ar_nil))) (gr'_name 4)
 (sr_for (ir_seq (er_var 2)) (gr'_name 5)
 (sr_if (tr_and (tr_test (er_2 rr_in (er_2 rr_ix (er_var 4) er_int) (er_2 rr_ix (er_var 1) (er_var 5)))) (tr_test (er_2 rr_in (er_2 rr_ix (er_var 4) er_int) (er_2 rr_ix (er_var 1) (er_var 5)))))
 (sr_seq (sr_asg (er_2 rr_add (er_var 3) (er_n rc_min (ar_cons (er_2 rr_ix (er_var 0) (er_2 rr_ix (er_var 4) er_int)) (ar_cons (er_2 rr_ix (er_var 0) (er_2 rr_ix (er_var 4) er_int)) ar_nil)))) (gr'_name 3))
 sr_break)
 sr_next)))
 (sr_ret (er_var 3)))) : SR K _ (t_law_places))
theorem sc_law_is_integer : FnScope N_law_is_integer ["actual"] (defScope s_law_is_integer) := ⟨rfl, rfl, rfl, by decide +kernel, rfl, by decide +kernel, by decide +kernel⟩
theorem ok_law_is_integer (T : Txt K mg) : FnOk P w K mg base CX0 1 T.f_law_is_integer T.fd_law_is_integer ["actual"] (spG K 1 (g_law_is_integer)) := by
  refine fnG (m := 0) T.F_law_is_integer sc_law_is_integer rfl rfl (fun cdv A outer s H E hr => ?_)
  have hu := hr.units
  refine ⟨_, (pss_one (ps_ret (pe_and (pe_callB call_isi (by rfl) T.m_isinstance bt_isinstance (pa_cons (pv 0) (pa_cons (pe_bltn (v := .ty "int") (by rfl) T.m_int bt_int rfl) pa_nil))) (pe_one (pe_not (pe_callB call_isi (by rfl) T.m_isinstance bt_isinstance (pa_cons (pv 0) (pa_cons (pe_bltn (v := .ty "bool") (by rfl) T.m_bool bt_bool rfl) pa_nil)))))))), ?_⟩
  exact ((sr_ret (er_and (er_n rc_isi (ar_cons (er_var 0) (ar_cons er_ty ar_nil))) (er_not (er_n rc_isi (ar_cons (er_var 0) (ar_cons er_ty ar_nil)))))) : SR K _ (t_law_is_integer))
theorem sc_law_apart : FnScope N_law_apart ["cell"] (defScope s_law_apart) := ⟨rfl, rfl, rfl, by decide +kernel, rfl, by decide +kernel, by decide +kernel⟩
theorem ok_law_apart (T : Txt K mg) : FnOk P w K mg base CX0 2 T.f_law_apart T.fd_law_apart ["cell"] (spG K 1 (g_law_apart)) := by
  have G_law_draws := ok_law_draws (P := P) (w := w) (base := base) T
  have G_law_pairs := ok_law_pairs (P := P) (w := w) (base := base) T
  refine fnG (m := 7) T.F_law_apart sc_law_apart rfl rfl (fun cdv A outer s H E hr => ?_)
  have hu := hr.units
  refine ⟨_, (pss_cons (ps_set (i := 1) sc_law_apart.nd rfl (by first | exact Or.inl rfl | exact Or.inr rfl) (pe_call G_law_draws (hr.mono (by decide)) (by rfl) T.g_law_draws T.F_law_draws.kp T.b_law_draws .nil pass0 (pa_cons (pv 0) (pa_cons (pe_op op_addA (pe_op op_addA (pe_lst (pa_cons pe_int (pa_cons pe_int pa_nil))) (pe_op op_mulA (pe_lst (pa_cons pe_int pa_nil)) pe_int)) (pe_op op_mulA (pe_lst (pa_cons pe_int pa_nil)) pe_int)) pa_nil))))
 (pss_cons (ps_set (i := 2) sc_law_apart.nd rfl (by first | exact Or.inl rfl | exact Or.inr rfl) (pe_op op_addA pe_int (pe_ix ix_seq (pv 1) pe_int (fun _ _ => rfl))))
 (pss_cons (ps_set (i := 3) sc_law_apart.nd rfl (by first | exact Or.inl rfl | exact Or.inr rfl) (pe_call G_law_pairs (hr.mono (by decide)) (by rfl) T.g_law_pairs T.F_law_pairs.kp T.b_law_pairs .nil pass0 (pa_cons (pv 2) pa_nil)))
 (pss_cons (ps_setLc (i := 4) (own := [("k", 7)]) (g := (gName 7)) (tt := tYes) (te := (tOp _ (tC (.int 1)) (tOp (rIx K) (tVar 1) (tOp _ (tC (.int 2)) (tVar 7))))) rfl sc_law_apart.nd rfl rfl (sw_true rfl rfl rfl (by decide +kernel)) (pi_range1 (by rfl) T.m_range (pa_cons (pv 2) pa_nil)) (blkOk_by (N := N_law_apart) (sc := defScope s_law_apart) (by decide +kernel)) (fun _ _ _ _ _ => (pg_name (i := 7) sc_law_apart.nd rfl (by first | exact Or.inl rfl | exact Or.inr rfl))) (fun _ _ _ _ _ => pts_nil) (fun _ _ _ _ _ => (pe_op op_addA pe_int (pe_ix ix_seq (pv 1) (pe_op op_addA pe_int (pv 7)) (fun _ _ => rfl)))))
 (pss_cons (ps_set (i := 5) sc_law_apart.nd rfl (by first | exact Or.inl rfl | exact Or.inr rfl) (pe_lst pa_nil))
 (pss_cons (ps_for PassesOwn.never rfl (pi_range1 (by rfl) T.m_range (pa_cons (pe_op op_addA pe_int (pe_ix ix_seq (pv 1) pe_int (fun _ _ => rfl))) pa_nil)) (pg_name (i := 6) sc_law_apart.nd rfl (by first | exact Or.inl rfl | exact Or.inr rfl))
 (pss_one (ps_expr (pe_bm PySem.F.plainAttrs_list PySem.F.slot_list_append PySem.F.type_list_append mt_append (pv 5) (pa_cons (pe_callTy call_list_of (by rfl) T.m_list bt_list (pa_cons (pe_ix ix_seq (pv 3) (pe_op op_mod (pe_callTy call_int1 (by rfl) T.m_int bt_int (pa_cons (pe_ix ix_seq (pv 1) (pe_op op_addA pe_int (pv 6)) (fun _ _ => rfl)) pa_nil)) (pe_callB call_lenA (by rfl) T.m_len bt_len (pa_cons (pv 3) pa_nil))) (fun _ _ => rfl)) pa_nil)) pa_nil)))))
 (pss_one (ps_ret (pe_tup (pa_cons (pv 4) (pa_cons (pv 5) pa_nil))))))))))), ?_⟩
  exact ((sr_seq (sr_asg (er_call (ar_cons (er_var 0) (ar_cons (er_2 rr_add (er_2 rr_add (er_lst (ar_cons er_int (ar_cons er_int ar_nil))) (er_2 rr_mul (er_lst (ar_cons er_int ar_nil)) er_int)) (er_2 rr_mul (er_lst (ar_cons er_int ar_nil)) er_int)) ar_nil))) (gr'_name 1))
 (sr_seq (sr_asg (er_2 rr_add er_int (er_2 rr_ix (er_var 1) er_int)) (gr'_name 2))
 (sr_seq (sr_asg (er_call (ar_cons (er_var 2) ar_nil)) (gr'_name 3))
 (sr_seq (sr_asg (er_of_eo (eo_lc (vs := [7]) (ir_rng1 (ar_cons (er_var 2) ar_nil)) (grc_name (j := 7) (by decide)) tr_yes (er_2 rr_add er_int (er_2 rr_ix (er_var 1) (er_2 rr_add er_int (er_var 7)))))) (gr'_name 4))
 (sr_seq (sr_asgO (eo_lst ar_nil))
 (sr_seq (sr_for (ir_rng1 (ar_cons (er_2 rr_add er_int (er_2 rr_ix (er_var 1) er_int)) ar_nil)) (gr'_name 6)
 (sr_app (i := 5) (er_n rc_list (ar_cons (er_2 rr_ix (er_var 3) (er_2 rr_mod (er_n rc_int (ar_cons (er_2 rr_ix (er_var 1) (er_2 rr_add er_int (er_var 6))) ar_nil)) (er_n rc_len (ar_cons (er_var 3) ar_nil)))) ar_nil))))
 (sr_frz [5] (sr_ret (er_tup (ar_cons (er_var 4) (ar_cons (er_var 5) ar_nil))))))))))) : SR K _ (t_law_apart))
theorem sc_law_worths : FnScope N_law_worths ["script", "k", "count"] (defScope s_law_worths) := ⟨rfl, rfl, rfl, by decide +kernel, rfl, by decide +kernel, by decide +kernel⟩
theorem ok_law_worths (T : Txt K mg) : FnOk P w K mg base CX0 2 T.f_law_worths T.fd_law_worths ["script", "k", "count"] (spG K 3 (g_law_worths)) := by
  have G_law_cell := ok_law_cell (P := P) (w := w) (base := base) T
  have G_law_draws := ok_law_draws (P := P) (w := w) (base := base) T
  refine fnG (m := 4) T.F_law_worths sc_law_worths rfl rfl (fun cdv A outer s H E hr => ?_)
  have hu := hr.units
  refine ⟨_, (pss_cons (ps_set (i := 3) sc_law_worths.nd rfl (by first | exact Or.inl rfl | exact Or.inr rfl) (pe_call G_law_draws (hr.mono (by decide)) (by rfl) T.g_law_draws T.F_law_draws.kp T.b_law_draws .nil pass0 (pa_cons (pe_call G_law_cell (hr.mono (by decide)) (by rfl) T.g_law_cell T.F_law_cell.kp T.b_law_cell .nil pass0 (pa_cons (pv 0) (pa_cons (pv 1) pa_nil))) (pa_cons (pe_op op_mulA (pe_lst (pa_cons pe_int pa_nil)) pe_int) pa_nil))))
 (pss_cons (ps_set (i := 4) sc_law_worths.nd rfl (by first | exact Or.inl rfl | exact Or.inr rfl) (pe_op op_mod (pe_callTy call_int1 (by rfl) T.m_int bt_int (pa_cons (pe_callB call_abs (by rfl) T.m_abs bt_abs (pa_cons (pe_callTy call_int1 (by rfl) T.m_int bt_int (pa_cons (pe_call G_law_cell (hr.mono (by decide)) (by rfl) T.g_law_cell T.F_law_cell.kp T.b_law_cell .nil pass0 (pa_cons (pv 0) (pa_cons (pe_op op_addA (pv 1) pe_int) pa_nil))) pa_nil)) pa_nil)) pa_nil)) (pe_op op_pow pe_int pe_int)))
 (pss_cons (ps_set (i := 5) sc_law_worths.nd rfl (by first | exact Or.inl rfl | exact Or.inr rfl) (pe_lst (pa_cons pe_int (pa_cons pe_int (pa_cons pe_int (pa_cons pe_int (pa_cons pe_int (pa_cons pe_int (pa_cons (pv 4) (pa_cons (pv 4) (pa_cons (pe_op op_addA (pv 4) pe_int) (pa_cons (pe_op op_pow pe_int pe_int) pa_nil))))))))))))
 (pss_one (ps_ret (pe_lc (own := [("p", 6)]) (g := (gName 6)) (tt := tYes) (te := (tOp (rIx K) (tVar 5) (tOp (rIx K) (tVar 3) (tVar 6)))) rfl sc_law_worths.nd (pi_range1 (by rfl) T.m_range (pa_cons (pv 2) pa_nil)) (blkOk_by (N := N_law_worths) (sc := defScope s_law_worths) (by decide +kernel)) (fun _ _ _ _ _ => (pg_name (i := 6) sc_law_worths.nd rfl (by first | exact Or.inl rfl | exact Or.inr rfl))) (fun _ _ _ _ _ => pts_nil) (fun _ _ _ _ _ => (pe_ix ix_seq (pv 5) (pe_ix ix_seq (pv 3) (pv 6) (fun _ _ => rfl)) (fun _ _ => rfl))))))))), ?_⟩
  exact ((sr_seq (sr_asg (er_call (ar_cons (er_call (ar_cons (er_var 0) (ar_cons (er_var 1) ar_nil))) (ar_cons (er_2 rr_mul (er_lst (ar_cons er_int ar_nil)) er_int) ar_nil))) (gr'_name 3))
 (sr_seq (sr_asg (er_2 rr_mod (er_n rc_int (ar_cons (er_n rc_abs (ar_cons (er_n rc_int (ar_cons (er_call (ar_cons (er_var 0) (ar_cons (er_2 rr_add (er_var 1) er_int) ar_nil))) ar_nil)) ar_nil)) ar_nil)) (er_2 rr_pow er_int er_int)) (gr'_name 4))
 (sr_seq (sr_asg (er_lst (ar_cons er_int (ar_cons er_int (ar_cons er_int (ar_cons er_int (ar_cons er_int (ar_cons er_int (ar_cons (er_var 4) (ar_cons (er_var 4) (ar_cons (er_2 rr_add (er_var 4) er_int) (ar_cons (er_2 rr_pow er_int er_int) ar_nil))))))))))) (gr'_name 5))
 (sr_retO (eo_lc (vs := [6]) (ir_rng1 (ar_cons (er_var 2) ar_nil)) (grc_name (j := 6) (by decide)) tr_yes (er_2 rr_ix (er_var 5) (er_2 rr_ix (er_var 3) (er_var 6)))))))) : SR K _ (t_law_worths))
theorem sc_law_order : FnScope N_law_order ["worths"] (defScope s_law_order) := ⟨rfl, rfl, rfl, by decide +kernel, rfl, by decide +kernel, by decide +kernel⟩
theorem ok_law_order (T : Txt K mg) : FnOk P w K mg base CX0 1 T.f_law_order T.fd_law_order ["worths"] (spG K 1 (g_law_order)) := by
  refine fnG (m := 5) T.F_law_order sc_law_order rfl rfl (fun cdv A outer s H E hr => ?_)
  have hu := hr.units
  refine ⟨_, (pss_cons (ps_set (i := 1) sc_law_order.nd rfl (by first | exact Or.inl rfl | exact Or.inr rfl) (pe_listRg rfl (by rfl) T.m_list (prg_1 (by rfl) T.m_range (pe_callB call_lenA (by rfl) T.m_len bt_len (pa_cons (pv 0) pa_nil)))))
 (pss_cons (ps_set (i := 2) sc_law_order.nd rfl (by first | exact Or.inl rfl | exact Or.inr rfl) (pe_lst pa_nil))
 (pss_cons (ps_for PassesOwn.never rfl (pi_range1 (by rfl) T.m_range (pa_cons (pe_callB call_lenA (by rfl) T.m_len bt_len (pa_cons (pv 0) pa_nil)) pa_nil)) (pg_name (i := 3) sc_law_order.nd rfl (by first | exact Or.inl rfl | exact Or.inr rfl))
 (pss_cons (ps_set (i := 4) sc_law_order.nd rfl (by first | exact Or.inl rfl | exact Or.inr rfl) (pe_ix ix_seq (pv 1) pe_int (fun _ _ => rfl)))
 (pss_cons (ps_for PassesOwn.never rfl (pi_seq (pv 1)) (pg_name (i := 5) sc_law_order.nd rfl (by first | exact Or.inl rfl | exact Or.inr rfl))
 (pss_one (ps_if (pt_cmpR op_gt (pe_ix ix_seq (pv 0) (pv 5) (fun _ _ => rfl)) (pe_ix ix_seq (pv 0) (pv 4) (fun _ _ => rfl)) (nomark _))
 (pss_one (ps_set (i := 4) sc_law_order.nd rfl (by first | exact Or.inl rfl | exact Or.inr rfl) (pv 5)))
 pss_nil)))
 (pss_cons (ps_expr (pe_bm PySem.F.plainAttrs_list PySem.F.slot_list_append PySem.F.type_list_append mt_append (pv 2) (pa_cons (pv 4) pa_nil)))
 (pss_one (ps_setLc (i := 1) (own := [("p", 5)]) (g := (gName 5)) (tt := (tTest (tOp (rNeD K) (tVar 5) (tVar 4)))) (te := (tVar 5)) rfl sc_law_order.nd rfl rfl (sw_true rfl rfl rfl (by decide +kernel)) (pi_seq (pv 1)) (blkOk_by (N := N_law_order) (sc := defScope s_law_order) (by decide +kernel)) (fun _ _ _ _ _ => (pg_name (i := 5) sc_law_order.nd rfl (by first | exact Or.inl rfl | exact Or.inr rfl))) (fun _ _ _ _ _ => (pts_one (pt_cmpR (op_neD hu) (pv 5) (pv 4) (nomark _)))) (fun _ _ _ _ _ => (pv 5))))))))
 (pss_one (ps_ret (pv 2)))))), ?_⟩
  exact ((sr_seq (sr_asg (er_listRg (er_n rc_len (ar_cons (er_var 0) ar_nil))) (gr'_name 1))
 (sr_seq (sr_asgO (eo_lst ar_nil))
 (sr_seq (sr_for (ir_rng1 (ar_cons (er_n rc_len (ar_cons (er_var 0) ar_nil)) ar_nil)) (gr'_name 3)
 (sr_seq (sr_asg (er_2 rr_ix (er_var 1) er_int) (gr'_name 4))
 (sr_seq (sr_for (ir_seq (er_var 1)) (gr'_name 5)
 (sr_if (tr_test (er_2 rr_gt (er_2 rr_ix (er_var 0) (er_var 5)) (er_2 rr_ix (er_var 0) (er_var 4))))
 (sr_asg (er_var 5) (gr'_name 4))
 sr_next))
 (sr_seq (sr_app (i := 2) (er_var 4))
 (sr_asg (er_of_eo (eo_lc (vs := [5]) (ir_seq (er_var 1)) (grc_name (j := 5) (by decide)) (tr_test (er_2 rr_ne (er_var 5) (er_var 4))) (er_var 5))) (gr'_name 1))))))
 (sr_retV 2)))) : SR K _ (t_law_order))
theorem sc_law_dealable : FnScope N_law_dealable ["caps", "holders"] (defScope s_law_dealable) := ⟨rfl, rfl, rfl, by decide +kernel, rfl, by decide +kernel, by decide +kernel⟩
theorem ok_law_dealable (T : Txt K mg) : FnOk P w K mg base CX0 3 T.f_law_dealable T.fd_law_dealable ["caps", "holders"] (spG K 2 (g_law_dealable)) := by
  have G_law_lots := ok_law_lots (P := P) (w := w) (base := base) T
  have G_law_places := ok_law_places (P := P) (w := w) (base := base) T
  refine fnG (m := 5) T.F_law_dealable sc_law_dealable rfl rfl (fun cdv A outer s H E hr => ?_)
  have hu := hr.units
  refine ⟨_, (pss_cons (ps_set (i := 2) sc_law_dealable.nd rfl (by first | exact Or.inl rfl | exact Or.inr rfl) (pe_lst pa_nil))
 (pss_cons (ps_for PassesOwn.never rfl (pi_seq (pe_call G_law_lots (hr.mono (by decide)) (by rfl) T.g_law_lots T.F_law_lots.kp T.b_law_lots .nil pass0 (pa_cons (pe_callB call_lenA (by rfl) T.m_len bt_len (pa_cons (pv 1) pa_nil)) pa_nil))) (pg_name (i := 3) sc_law_dealable.nd rfl (by first | exact Or.inl rfl | exact Or.inr rfl))
 (pss_cons (ps_set (i := 4) sc_law_dealable.nd rfl (by first | exact Or.inl rfl | exact Or.inr rfl) (pe_callB (cr_sum rfl) (by rfl) T.m_sum bt_sum (pa_cons (pe_lc (own := [("p", 6)]) (g := (gName 6)) (tt := tYes) (te := (tOp (rIx K) (tTup (tCons (tC (.int 1)) (tCons (tC (.int 2)) (tCons (tC (.int 4)) (tCons (tC (.int 8)) (tCons (tC (.int 16)) (tCons (tC (.int 32)) tNil))))))) (tVar 6))) rfl sc_law_dealable.nd (pi_seq (pv 3)) (blkOk_by (N := N_law_dealable) (sc := defScope s_law_dealable) (by decide +kernel)) (fun _ _ _ _ _ => (pg_name (i := 6) sc_law_dealable.nd rfl (by first | exact Or.inl rfl | exact Or.inr rfl))) (fun _ _ _ _ _ => pts_nil) (fun _ _ _ _ _ => (pe_ix ix_seq (pe_tup (pa_cons pe_int (pa_cons pe_int (pa_cons pe_int (pa_cons pe_int (pa_cons pe_int (pa_cons pe_int pa_nil))))))) (pv 6) (fun _ _ => rfl)))) pa_nil)))
 (pss_cons (ps_set (i := 5) sc_law_dealable.nd rfl (by first | exact Or.inl rfl | exact Or.inr rfl) (pe_cmpR op_le (pe_callB call_lenA (by rfl) T.m_len bt_len (pa_cons (pv 3) pa_nil)) (pe_call G_law_places (hr.mono (by decide)) (by rfl) T.g_law_places T.F_law_places.kp T.b_law_places .nil pass0 (pa_cons (pv 0) (pa_cons (pv 1) (pa_cons (pv 3) pa_nil)))) (nomark _)))
 (pss_cons (ps_for PassesOwn.never rfl (pi_seq (pv 3)) (pg_name (i := 6) sc_law_dealable.nd rfl (by first | exact Or.inl rfl | exact Or.inr rfl))
 (pss_one (ps_set (i := 5) sc_law_dealable.nd rfl (by first | exact Or.inl rfl | exact Or.inr rfl) (pe_and (pv 5) (pe_one (pe_ix ix_seq (pv 2) (pe_op op_sub (pv 4) (pe_ix ix_seq (pe_tup (pa_cons pe_int (pa_cons pe_int (pa_cons pe_int (pa_cons pe_int (pa_cons pe_int (pa_cons pe_int pa_nil))))))) (pv 6) (fun _ _ => rfl))) (fun _ _ => rfl)))))))
 (pss_one (ps_expr (pe_bm PySem.F.plainAttrs_list PySem.F.slot_list_append PySem.F.type_list_append mt_append (pv 2) (pa_cons (pv 5) pa_nil))))))))
 (pss_one (ps_ret (pv 2))))), ?_⟩
  exact ((sr_seq (sr_asgO (eo_lst ar_nil))
 (sr_seq (sr_for (ir_seq (er_call (ar_cons (er_n rc_len (ar_cons (er_var 1) ar_nil)) ar_nil))) (gr'_name 3)
 (sr_seq (sr_asg (er_n rc_sum (ar_cons (er_of_eo (eo_lc (vs := [6]) (ir_seq (er_var 3)) (grc_name (j := 6) (by decide)) tr_yes (er_2 rr_ix (er_tup (ar_cons er_int (ar_cons er_int (ar_cons er_int (ar_cons er_int (ar_cons er_int (ar_cons er_int ar_nil))))))) (er_var 6)))) ar_nil)) (gr'_name 4))
 (sr_seq (sr_asg (er_2 rr_le (er_n rc_len (ar_cons (er_var 3) ar_nil)) (er_call (ar_cons (er_var 0) (ar_cons (er_var 1) (ar_cons (er_var 3) ar_nil))))) (gr'_name 5))
 (sr_seq (sr_for (ir_seq (er_var 3)) (gr'_name 6)
 (sr_asg (er_peekF (er_and (er_var 5) (er_2 rr_ix (er_var 2) (er_2 rr_sub (er_var 4) (er_2 rr_ix (er_tup (ar_cons er_int (ar_cons er_int (ar_cons er_int (ar_cons er_int (ar_cons er_int (ar_cons er_int ar_nil))))))) (er_var 6)))))) (gr'_name 5)))
 (sr_app (i := 2) (er_var 5))))))
 (sr_retV 2))) : SR K _ (t_law_dealable))
theorem sc_law_collected : FnScope N_law_collected ["worths", "dealable"] (defScope s_law_collected) := ⟨rfl, rfl, rfl, by decide +kernel, rfl, by decide +kernel, by decide +kernel⟩
theorem ok_law_collected (T : Txt K mg) : FnOk P w K mg base CX0 2 T.f_law_collected T.fd_law_collected ["worths", "dealable"] (spG K 2 (g_law_collected)) := by
  have G_law_order := ok_law_order (P := P) (w := w) (base := base) T
  have G_law_bits := ok_law_bits (P := P) (w := w) (base := base) T
  refine fnG (m := 2) T.F_law_collected sc_law_collected rfl rfl (fun cdv A outer s H E hr => ?_)
  have hu := hr.units
  refine ⟨_, (pss_cons (ps_set (i := 2) sc_law_collected.nd rfl (by first | exact Or.inl rfl | exact Or.inr rfl) pe_int)
 (pss_cons (ps_for PassesOwn.never rfl (pi_seq (pe_call G_law_order (hr.mono (by decide)) (by rfl) T.g_law_order T.F_law_order.kp T.b_law_order .nil pass0 (pa_cons (pv 0) pa_nil))) (pg_name (i := 3) sc_law_collected.nd rfl (by first | exact Or.inl rfl | exact Or.inr rfl))
 (pss_one (ps_if (pt_truth (pe_ix ix_seq (pv 1) (pe_op op_addA (pv 2) (pe_ix ix_seq (pe_tup (pa_cons pe_int (pa_cons pe_int (pa_cons pe_int (pa_cons pe_int (pa_cons pe_int (pa_cons pe_int pa_nil))))))) (pv 3) (fun _ _ => rfl))) (fun _ _ => rfl)) (fun _ => rfl))
 (pss_one (ps_set (i := 2) sc_law_collected.nd rfl (by first | exact Or.inl rfl | exact Or.inr rfl) (pe_op op_addA (pv 2) (pe_ix ix_seq (pe_tup (pa_cons pe_int (pa_cons pe_int (pa_cons pe_int (pa_cons pe_int (pa_cons pe_int (pa_cons pe_int pa_nil))))))) (pv 3) (fun _ _ => rfl)))))
 pss_nil)))
 (pss_one (ps_ret (pe_call G_law_bits (hr.mono (by decide)) (by rfl) T.g_law_bits T.F_law_bits.kp T.b_law_bits .nil pass0 (pa_cons (pv 2) (pa_cons (pe_callB call_lenA (by rfl) T.m_len bt_len (pa_cons (pv 0) pa_nil)) pa_nil))))))), ?_⟩
  exact ((sr_seq (sr_asg er_int (gr'_name 2))
 (sr_seq (sr_for (ir_seq (er_call (ar_cons (er_var 0) ar_nil))) (gr'_name 3)
 (sr_if (tr_tru (er_2 rr_ix (er_var 1) (er_2 rr_add (er_var 2) (er_2 rr_ix (er_tup (ar_cons er_int (ar_cons er_int (ar_cons er_int (ar_cons er_int (ar_cons er_int (ar_cons er_int ar_nil))))))) (er_var 3)))))
 (sr_asg (er_2 rr_add (er_var 2) (er_2 rr_ix (er_tup (ar_cons er_int (ar_cons er_int (ar_cons er_int (ar_cons er_int (ar_cons er_int (ar_cons er_int ar_nil))))))) (er_var 3))) (gr'_name 2))
 sr_next))
 (sr_ret (er_call (ar_cons (er_var 2) (ar_cons (er_n rc_len (ar_cons (er_var 0) ar_nil)) ar_nil)))))) : SR K _ (t_law_collected))
theorem sc_law_collected_apart : FnScope N_law_collected_apart ["caps", "holders", "worths"] (defScope s_law_collected_apart) := ⟨rfl, rfl, rfl, by decide +kernel, rfl, by decide +kernel, by decide +kernel⟩
theorem ok_law_collected_apart (T : Txt K mg) : FnOk P w K mg base CX0 2 T.f_law_collected_apart T.fd_law_collected_apart ["caps", "holders", "worths"] (spG K 3 (g_law_collected_apart)) := by
  have G_law_order := ok_law_order (P := P) (w := w) (base := base) T
  refine fnG (m := 4) T.F_law_collected_apart sc_law_collected_apart rfl rfl (fun cdv A outer s H E hr => ?_)
  have hu := hr.units
  refine ⟨_, (pss_cons (ps_set (i := 3) sc_law_collected_apart.nd rfl (by first | exact Or.inl rfl | exact Or.inr rfl) (pe_lst pa_nil))
 (pss_cons (ps_for PassesOwn.never rfl (pi_seq (pe_call G_law_order (hr.mono (by decide)) (by rfl) T.g_law_order T.F_law_order.kp T.b_law_order .nil pass0 (pa_cons (pv 2) pa_nil))) (pg_name (i := 4) sc_law_collected_apart.nd rfl (by first | exact Or.inl rfl | exact Or.inr rfl))
 (pss_cons (ps_setLc (i := 5) (own := [("q", 6)]) (g := (gName 6)) (tt := (tTest (tOp (rEqD K) (tOp (rIx K) (tVar 1) (tVar 6)) (tOp (rIx K) (tVar 1) (tVar 4))))) (te := (tVar 6)) rfl sc_law_collected_apart.nd rfl rfl (sw_true rfl rfl rfl (by decide +kernel)) (pi_seq (pv 3)) (blkOk_by (N := N_law_collected_apart) (sc := defScope s_law_collected_apart) (by decide +kernel)) (fun _ _ _ _ _ => (pg_name (i := 6) sc_law_collected_apart.nd rfl (by first | exact Or.inl rfl | exact Or.inr rfl))) (fun _ _ _ _ _ => (pts_one (pt_cmpR (op_eqD hu) (pe_ix ix_seq (pv 1) (pv 6) (fun _ _ => rfl)) (pe_ix ix_seq (pv 1) (pv 4) (fun _ _ => rfl)) (nomark _)))) (fun _ _ _ _ _ => (pv 6)))
 (pss_one (ps_if (pt_cmpR op_lt (pe_callB call_lenA (by rfl) T.m_len bt_len (pa_cons (pv 5) pa_nil)) (pe_callB (call_minA rfl) (by rfl) T.m_min bt_min (pa_cons (pe_ix ix_seq (pv 0) (pe_ix ix_seq (pe_ix ix_seq (pv 1) (pv 4) (fun _ _ => rfl)) pe_int (fun _ _ => rfl)) (fun _ _ => rfl)) (pa_cons (pe_ix ix_seq (pv 0) (pe_ix ix_seq (pe_ix ix_seq (pv 1) (pv 4) (fun _ _ => rfl)) pe_int (fun _ _ => rfl)) (fun _ _ => rfl)) pa_nil))) (nomark _))
 (pss_one (ps_expr (pe_bm PySem.F.plainAttrs_list PySem.F.slot_list_append PySem.F.type_list_append mt_append (pv 3) (pa_cons (pv 4) pa_nil))))
 pss_nil))))
 (pss_one (ps_ret (pe_callB call_sortedA (by rfl) T.m_sorted bt_sorted (pa_cons (pv 3) pa_nil)))))), ?_⟩
  exact ((sr_seq (sr_asgO (eo_lst ar_nil))
 (sr_seq (sr_for (ir_seq (er_call (ar_cons (er_var 2) ar_nil))) (gr'_name 4)
 (sr_seq (sr_asg (Zq5.er_peekN (eo_lc (vs := [6]) (ir_seq (er_var 3)) (grc_name (j := 6) (by decide)) (tr_test (er_2 rr_eq (er_2 rr_ix (er_var 1) (er_var 6)) (er_2 rr_ix (er_var 1) (er_var 4)))) (er_var 6))) (gr'_name 5))
 (sr_if (tr_test (er_2 rr_lt (er_n rc_len (ar_cons (er_var 5) ar_nil)) (er_n rc_min (ar_cons (er_2 rr_ix (er_var 0) (er_2 rr_ix (er_2 rr_ix (er_var 1) (er_var 4)) er_int)) (ar_cons (er_2 rr_ix (er_var 0) (er_2 rr_ix (er_2 rr_ix (er_var 1) (er_var 4)) er_int)) ar_nil)))))
 (sr_app (i := 3) (er_var 4))
 sr_next)))
 (sr_frz [3] (sr_ret (er_n rc_sorted (ar_cons (er_var 3) ar_nil)))))) : SR K _ (t_law_collected_apart))
theorem sc_law_is_best : FnScope N_law_is_best ["worths", "best", "lot"] (defScope s_law_is_best) := ⟨rfl, rfl, rfl, by decide +kernel, rfl, by decide +kernel, by decide +kernel⟩
theorem ok_law_is_best (T : Txt K mg) : FnOk P w K mg base CX0 1 T.f_law_is_best T.fd_law_is_best ["worths", "best", "lot"] (spG K 3 (g_law_is_best)) := by
  refine fnG (m := 2) T.F_law_is_best sc_law_is_best rfl rfl (fun cdv A outer s H E hr => ?_)
  have hu := hr.units
  refine ⟨_, (pss_cons (ps_if (pt_cmpR op_gt (pe_callB (cr_sum rfl) (by rfl) T.m_sum bt_sum (pa_cons (pe_lc (own := [("p", 4)]) (g := (gName 4)) (tt := tYes) (te := (tOp (rIx K) (tVar 0) (tVar 4))) rfl sc_law_is_best.nd (pi_seq (pv 2)) (blkOk_by (N := N_law_is_best) (sc := defScope s_law_is_best) (by decide +kernel)) (fun _ _ _ _ _ => (pg_name (i := 4) sc_law_is_best.nd rfl (by first | exact Or.inl rfl | exact Or.inr rfl))) (fun _ _ _ _ _ => pts_nil) (fun _ _ _ _ _ => (pe_ix ix_seq (pv 0) (pv 4) (fun _ _ => rfl)))) pa_nil)) (pe_callB (cr_sum rfl) (by rfl) T.m_sum bt_sum (pa_cons (pe_lc (own := [("p", 4)]) (g := (gName 4)) (tt := tYes) (te := (tOp (rIx K) (tVar 0) (tVar 4))) rfl sc_law_is_best.nd (pi_seq (pv 1)) (blkOk_by (N := N_law_is_best) (sc := defScope s_law_is_best) (by decide +kernel)) (fun _ _ _ _ _ => (pg_name (i := 4) sc_law_is_best.nd rfl (by first | exact Or.inl rfl | exact Or.inr rfl))) (fun _ _ _ _ _ => pts_nil) (fun _ _ _ _ _ => (pe_ix ix_seq (pv 0) (pv 4) (fun _ _ => rfl)))) pa_nil)) (nomark _))
 (pss_one (ps_ret pe_bl))
 pss_nil)
 (pss_cons (ps_for PassesOwn.never rfl (pi_seq (pv 0)) (pg_name (i := 3) sc_law_is_best.nd rfl (by first | exact Or.inl rfl | exact Or.inr rfl))
 (pss_one (ps_if (pt_cmpR op_gt (pe_callB call_lenA (by rfl) T.m_len bt_len (pa_cons (pe_lc (own := [("p", 4)]) (g := (gName 4)) (tt := (tTest (tOp _ (tOp (rIx K) (tVar 0) (tVar 4)) (tVar 3)))) (te := (tVar 4)) rfl sc_law_is_best.nd (pi_seq (pv 2)) (blkOk_by (N := N_law_is_best) (sc := defScope s_law_is_best) (by decide +kernel)) (fun _ _ _ _ _ => (pg_name (i := 4) sc_law_is_best.nd rfl (by first | exact Or.inl rfl | exact Or.inr rfl))) (fun _ _ _ _ _ => (pts_one (pt_cmpR op_ge (pe_ix ix_seq (pv 0) (pv 4) (fun _ _ => rfl)) (pv 3) (nomark _)))) (fun _ _ _ _ _ => (pv 4))) pa_nil)) (pe_callB call_lenA (by rfl) T.m_len bt_len (pa_cons (pe_lc (own := [("p", 4)]) (g := (gName 4)) (tt := (tTest (tOp _ (tOp (rIx K) (tVar 0) (tVar 4)) (tVar 3)))) (te := (tVar 4)) rfl sc_law_is_best.nd (pi_seq (pv 1)) (blkOk_by (N := N_law_is_best) (sc := defScope s_law_is_best) (by decide +kernel)) (fun _ _ _ _ _ => (pg_name (i := 4) sc_law_is_best.nd rfl (by first | exact Or.inl rfl | exact Or.inr rfl))) (fun _ _ _ _ _ => (pts_one (pt_cmpR op_ge (pe_ix ix_seq (pv 0) (pv 4) (fun _ _ => rfl)) (pv 3) (nomark _)))) (fun _ _ _ _ _ => (pv 4))) pa_nil)) (nomark _))
 (pss_one (ps_ret pe_bl))
 pss_nil)))
 (pss_one (ps_ret pe_bl)))), ?_⟩
  exact ((sr_seq (sr_if (tr_test (er_2 rr_gt (er_n rc_sum (ar_cons (er_of_eo (eo_lc (vs := [4]) (ir_seq (er_var 2)) (grc_name (j := 4) (by decide)) tr_yes (er_2 rr_ix (er_var 0) (er_var 4)))) ar_nil)) (er_n rc_sum (ar_cons (er_of_eo (eo_lc (vs := [4]) (ir_seq (er_var 1)) (grc_name (j := 4) (by decide)) tr_yes (er_2 rr_ix (er_var 0) (er_var 4)))) ar_nil))))
 (sr_ret er_bl)
 sr_next)
 (sr_seq (sr_for (ir_seq (er_var 0)) (gr'_name 3)
 (sr_if (tr_test (er_2 rr_gt (er_n rc_len (ar_cons (er_of_eo (eo_lc (vs := [4]) (ir_seq (er_var 2)) (grc_name (j := 4) (by decide)) (tr_test (er_2 rr_ge (er_2 rr_ix (er_var 0) (er_var 4)) (er_var 3))) (er_var 4))) ar_nil)) (er_n rc_len (ar_cons (er_of_eo (eo_lc (vs := [4]) (ir_seq (er_var 1)) (grc_name (j := 4) (by decide)) (tr_test (er_2 rr_ge (er_2 rr_ix (er_var 0) (er_var 4)) (er_var 3))) (er_var 4))) ar_nil))))
 (sr_ret er_bl)
 sr_next))
 (sr_ret er_bl))) : SR K _ (t_law_is_best))
theorem sc_law_joined : FnScope N_law_joined ["first", "second"] (defScope s_law_joined) := ⟨rfl, rfl, rfl, by decide +kernel, rfl, by decide +kernel, by decide +kernel⟩
theorem ok_law_joined (T : Txt K mg) : FnOk P w K mg base CX0 1 T.f_law_joined T.fd_law_joined ["first", "second"] (spG K 2 (g_law_joined)) := by
  refine fnG (m := 6) T.F_law_joined sc_law_joined rfl rfl (fun cdv A outer s H E hr => ?_)
  have hu := hr.units
  refine ⟨_, (pss_cons (ps_set (i := 2) sc_law_joined.nd rfl (by first | exact Or.inl rfl | exact Or.inr rfl) (pe_op op_addA (pe_ix ix_seq (pv 0) pe_int (fun _ _ => rfl)) (pe_ix ix_seq (pv 1) pe_int (fun _ _ => rfl))))
 (pss_cons (ps_set (i := 3) sc_law_joined.nd rfl (by first | exact Or.inl rfl | exact Or.inr rfl) (pe_callB call_lenA (by rfl) T.m_len bt_len (pa_cons (pe_ix ix_seq (pv 0) pe_int (fun _ _ => rfl)) pa_nil)))
 (pss_cons (ps_set (i := 4) sc_law_joined.nd rfl (by first | exact Or.inl rfl | exact Or.inr rfl) (pe_lst pa_nil))
 (pss_cons (ps_set (i := 5) sc_law_joined.nd rfl (by first | exact Or.inl rfl | exact Or.inr rfl) (pe_lst pa_nil))
 (pss_cons (ps_for PassesOwn.never rfl (pi_range1 (by rfl) T.m_range (pa_cons (pe_callB (call_maxA rfl) (by rfl) T.m_max bt_max (pa_cons (pe_callB call_lenA (by rfl) T.m_len bt_len (pa_cons (pe_ix ix_seq (pv 0) pe_int (fun _ _ => rfl)) pa_nil)) (pa_cons (pe_callB call_lenA (by rfl) T.m_len bt_len (pa_cons (pe_ix ix_seq (pv 1) pe_int (fun _ _ => rfl)) pa_nil)) pa_nil))) pa_nil)) (pg_name (i := 6) sc_law_joined.nd rfl (by first | exact Or.inl rfl | exact Or.inr rfl))
 (pss_cons (ps_if (pt_cmpR op_lt (pv 6) (pe_callB call_lenA (by rfl) T.m_len bt_len (pa_cons (pe_ix ix_seq (pv 0) pe_int (fun _ _ => rfl)) pa_nil)) (nomark _))
 (pss_cons (ps_expr (pe_bm PySem.F.plainAttrs_list PySem.F.slot_list_append PySem.F.type_list_append mt_append (pv 4) (pa_cons (pe_callTy call_list_of (by rfl) T.m_list bt_list (pa_cons (pe_ix ix_seq (pe_ix ix_seq (pv 0) pe_int (fun _ _ => rfl)) (pv 6) (fun _ _ => rfl)) pa_nil)) pa_nil)))
 (pss_one (ps_expr (pe_bm PySem.F.plainAttrs_list PySem.F.slot_list_append PySem.F.type_list_append mt_append (pv 5) (pa_cons (pe_tup (pa_cons pe_int (pa_cons (pv 6) pa_nil))) pa_nil)))))
 pss_nil)
 (pss_one (ps_if (pt_cmpR op_lt (pv 6) (pe_callB call_lenA (by rfl) T.m_len bt_len (pa_cons (pe_ix ix_seq (pv 1) pe_int (fun _ _ => rfl)) pa_nil)) (nomark _))
 (pss_cons (ps_expr (pe_bm PySem.F.plainAttrs_list PySem.F.slot_list_append PySem.F.type_list_append mt_append (pv 4) (pa_cons (pe_lc (own := [("k", 7)]) (g := (gName 7)) (tt := tYes) (te := (tOp _ (tVar 7) (tVar 3))) rfl sc_law_joined.nd (pi_seq (pe_ix ix_seq (pe_ix ix_seq (pv 1) pe_int (fun _ _ => rfl)) (pv 6) (fun _ _ => rfl))) (blkOk_by (N := N_law_joined) (sc := defScope s_law_joined) (by decide +kernel)) (fun _ _ _ _ _ => (pg_name (i := 7) sc_law_joined.nd rfl (by first | exact Or.inl rfl | exact Or.inr rfl))) (fun _ _ _ _ _ => pts_nil) (fun _ _ _ _ _ => (pe_op op_addA (pv 7) (pv 3)))) pa_nil)))
 (pss_one (ps_expr (pe_bm PySem.F.plainAttrs_list PySem.F.slot_list_append PySem.F.type_list_append mt_append (pv 5) (pa_cons (pe_tup (pa_cons pe_int (pa_cons (pv 6) pa_nil))) pa_nil)))))
 pss_nil))))
 (pss_one (ps_ret (pe_tup (pa_cons (pv 2) (pa_cons (pv 4) (pa_cons (pv 5) pa_nil))))))))))), ?_⟩
  exact ((sr_seq (sr_asg (er_2 rr_add (er_2 rr_ix (er_var 0) er_int) (er_2 rr_ix (er_var 1) er_int)) (gr'_name 2))
 (sr_seq (sr_asg (er_n rc_len (ar_cons (er_2 rr_ix (er_var 0) er_int) ar_nil)) (gr'_name 3))
 (sr_seq (sr_asgO (eo_lst ar_nil))
 (sr_seq (sr_asgO (eo_lst ar_nil))
 (sr_seq (sr_for (ir_rng1 (ar_cons (er_n rc_max (ar_cons (er_n rc_len (ar_cons (er_2 rr_ix (er_var 0) er_int) ar_nil)) (ar_cons (er_n rc_len (ar_cons (er_2 rr_ix (er_var 1) er_int) ar_nil)) ar_nil))) ar_nil)) (gr'_name 6)
 (sr_seq (sr_if (tr_test (er_2 rr_lt (er_var 6) (er_n rc_len (ar_cons (er_2 rr_ix (er_var 0) er_int) ar_nil))))
 (sr_seq (sr_app (i := 4) (er_n rc_list (ar_cons (er_2 rr_ix (er_2 rr_ix (er_var 0) er_int) (er_var 6)) ar_nil)))
 (sr_app (i := 5) (er_tup (ar_cons er_int (ar_cons (er_var 6) ar_nil)))))
 sr_next)
 (sr_if (tr_test (er_2 rr_lt (er_var 6) (er_n rc_len (ar_cons (er_2 rr_ix (er_var 1) er_int) ar_nil))))
 (sr_seq (sr_app (i := 4) (er_of_eo (eo_lc (vs := [7]) (ir_seq (er_2 rr_ix (er_2 rr_ix (er_var 1) er_int) (er_var 6))) (grc_name (j := 7) (by decide)) tr_yes (er_2 rr_add (er_var 7) (er_var 3)))))
 (sr_app (i := 5) (er_tup (ar_cons er_int (ar_cons (er_var 6) ar_nil)))))
 sr_next)))
 (sr_frz [4, 5] (sr_ret (er_tup (ar_cons (er_var 2) (ar_cons (er_var 4) (ar_cons (er_var 5) ar_nil))))))))))) : SR K _ (t_law_joined))
theorem sc_law_collected_in_groups : FnScope N_law_collected_in_groups ["groups", "owners", "worths"] (defScope s_law_collected_in_groups) := ⟨rfl, rfl, rfl, by decide +kernel, rfl, by decide +kernel, by decide +kernel⟩
theorem ok_law_collected_in_groups (T : Txt K mg) : FnOk P w K mg base CX0 4 T.f_law_collected_in_groups T.fd_law_collected_in_groups ["groups", "owners", "worths"] (spG K 3 (g_law_collected_in_groups)) := by
  have G_law_dealable := ok_law_dealable (P := P) (w := w) (base := base) T
  have G_law_collected := ok_law_collected (P := P) (w := w) (base := base) T
  refine fnG (m := 5) T.F_law_collected_in_groups sc_law_collected_in_groups rfl rfl (fun cdv A outer s H E hr => ?_)
  have hu := hr.units
  refine ⟨_, (pss_cons (ps_set (i := 3) sc_law_collected_in_groups.nd rfl (by first | exact Or.inl rfl | exact Or.inr rfl) (pe_lst pa_nil))
 (pss_cons (ps_for PassesOwn.never rfl (pi_range1 (by rfl) T.m_range (pa_cons pe_int pa_nil)) (pg_name (i := 4) sc_law_collected_in_groups.nd rfl (by first | exact Or.inl rfl | exact Or.inr rfl))
 (pss_cons (ps_setLc (i := 5) (own := [("q", 7)]) (g := (gName 7)) (tt := (tTest (tOp (rEqD K) (tOp (rIx K) (tOp (rIx K) (tVar 1) (tVar 7)) (tC (.int 0))) (tVar 4)))) (te := (tOp (rIx K) (tVar 2) (tVar 7))) rfl sc_law_collected_in_groups.nd rfl rfl (sw_true rfl rfl rfl (by decide +kernel)) (pi_range1 (by rfl) T.m_range (pa_cons (pe_callB call_lenA (by rfl) T.m_len bt_len (pa_cons (pv 1) pa_nil)) pa_nil)) (blkOk_by (N := N_law_collected_in_groups) (sc := defScope s_law_collected_in_groups) (by decide +kernel)) (fun _ _ _ _ _ => (pg_name (i := 7) sc_law_collected_in_groups.nd rfl (by first | exact Or.inl rfl | exact Or.inr rfl))) (fun _ _ _ _ _ => (pts_one (pt_cmpR (op_eqD hu) (pe_ix ix_seq (pe_ix ix_seq (pv 1) (pv 7) (fun _ _ => rfl)) pe_int (fun _ _ => rfl)) (pv 4) (nomark _)))) (fun _ _ _ _ _ => (pe_ix ix_seq (pv 2) (pv 7) (fun _ _ => rfl))))
 (pss_cons (ps_set (i := 6) sc_law_collected_in_groups.nd rfl (by first | exact Or.inl rfl | exact Or.inr rfl) (pe_call G_law_collected (hr.mono (by decide)) (by rfl) T.g_law_collected T.F_law_collected.kp T.b_law_collected .nil pass0 (pa_cons (pv 5) (pa_cons (pe_call G_law_dealable (hr.mono (by decide)) (by rfl) T.g_law_dealable T.F_law_dealable.kp T.b_law_dealable .nil pass0 (pa_cons (pe_ix ix_seq (pe_ix ix_seq (pv 0) (pv 4) (fun _ _ => rfl)) pe_int (fun _ _ => rfl)) (pa_cons (pe_ix ix_seq (pe_ix ix_seq (pv 0) (pv 4) (fun _ _ => rfl)) pe_int (fun _ _ => rfl)) pa_nil))) pa_nil))))
 (pss_one (ps_set (i := 3) sc_law_collected_in_groups.nd rfl (by first | exact Or.inl rfl | exact Or.inr rfl) (pe_op op_addA (pv 3) (pe_lc (own := [("q", 7)]) (g := (gName 7)) (tt := (tAnd (tTest (tOp (rEqD K) (tOp (rIx K) (tOp (rIx K) (tVar 1) (tVar 7)) (tC (.int 0))) (tVar 4))) (tTest (tOp (rIn K false) (tOp (rIx K) (tOp (rIx K) (tVar 1) (tVar 7)) (tC (.int 1))) (tVar 6))))) (te := (tVar 7)) rfl sc_law_collected_in_groups.nd (pi_range1 (by rfl) T.m_range (pa_cons (pe_callB call_lenA (by rfl) T.m_len bt_len (pa_cons (pv 1) pa_nil)) pa_nil)) (blkOk_by (N := N_law_collected_in_groups) (sc := defScope s_law_collected_in_groups) (by decide +kernel)) (fun _ _ _ _ _ => (pg_name (i := 7) sc_law_collected_in_groups.nd rfl (by first | exact Or.inl rfl | exact Or.inr rfl))) (fun _ _ _ _ _ => (pts_one ((pw_and (pt_cmpR (op_eqD hu) (pe_ix ix_seq (pe_ix ix_seq (pv 1) (pv 7) (fun _ _ => rfl)) pe_int (fun _ _ => rfl)) (pv 4) (nomark _)) (pw_and1 (pt_cmpR op_in_seq (pe_ix ix_seq (pe_ix ix_seq (pv 1) (pv 7) (fun _ _ => rfl)) pe_int (fun _ _ => rfl)) (pv 6) (by rfl))))).pt)) (fun _ _ _ _ _ => (pv 7)))))))))
 (pss_one (ps_ret (pe_callB call_sortedA (by rfl) T.m_sorted bt_sorted (pa_cons (pv 3) pa_nil)))))), ?_⟩
  exact ((sr_seq (sr_asg (er_lst ar_nil) (gr'_name 3))
 (sr_seq (sr_for (ir_rng1 (ar_cons er_int ar_nil)) (gr'_name 4)
 (sr_seq (sr_asg (er_of_eo (eo_lc (vs := [7]) (ir_rng1 (ar_cons (er_n rc_len (ar_cons (er_var 1) ar_nil)) ar_nil)) (grc_name (j := 7) (by decide)) (tr_test (er_2 rr_eq (er_2 rr_ix (er_2 rr_ix (er_var 1) (er_var 7)) er_int) (er_var 4))) (er_2 rr_ix (er_var 2) (er_var 7)))) (gr'_name 5))
 (sr_seq (sr_asg (er_call (ar_cons (er_var 5) (ar_cons (er_call (ar_cons (er_2 rr_ix (er_2 rr_ix (er_var 0) (er_var 4)) er_int) (ar_cons (er_2 rr_ix (er_2 rr_ix (er_var 0) (er_var 4)) er_int) ar_nil))) ar_nil))) (gr'_name 6))
 (sr_asg (er_2 rr_add (er_var 3) (er_of_eo (eo_lc (vs := [7]) (ir_rng1 (ar_cons (er_n rc_len (ar_cons (er_var 1) ar_nil)) ar_nil)) (grc_name (j := 7) (by decide)) (tr_and (tr_test (er_2 rr_eq (er_2 rr_ix (er_2 rr_ix (er_var 1) (er_var 7)) er_int) (er_var 4))) (tr_test (er_2 rr_in (er_2 rr_ix (er_2 rr_ix (er_var 1) (er_var 7)) er_int) (er_var 6)))) (er_var 7)))) (gr'_name 3)))))
 (sr_ret (er_n rc_sorted (ar_cons (er_var 3) ar_nil))))) : SR K _ (t_law_collected_in_groups))
theorem sc_law_is_right : FnScope N_law_is_right ["caps", "holders", "asked"] (defScope s_law_is_right) := ⟨rfl, rfl, rfl, by decide +kernel, rfl, by decide +kernel, by decide +kernel⟩
theorem ok_law_is_right (T : Txt K mg) {P0 c0 : Addr} (TB : LamX.TabB base mg c0 P0) (hc0 : T.fd_best_lot.code = .ref c0) : FnOk P w K mg base CX0 8 T.f_law_is_right T.fd_law_is_right ["caps", "holders", "asked"] (Zst2.spT K [(P0, lamQ)] 3 (g_law_is_right T.c)) := by
  have G_Pool_init := ok_Pool_init (P := P) (w := w) (base := base) T
  have G_best_lot := ok_best_lot (P := P) (w := w) (base := base) T TB hc0
  have G_law_is_integer := ok_law_is_integer (P := P) (w := w) (base := base) T
  refine Zst2.fnTO (m := 6) T.F_law_is_right sc_law_is_right rfl rfl (fun cdv _ A outer s H E hr => ?_)
  have hu := hr.units
  refine ⟨_, (pss_cons (ps_set (i := 3) sc_law_is_right.nd rfl (by first | exact Or.inl rfl | exact Or.inr rfl) (pe_make T.M_Pool G_Pool_init (hr.mono (by decide)) (by rfl) T.c_Pool T.b_Pool_init .nil pass0 (pa_cons (pe_callTy call_list_of (by rfl) T.m_list bt_list (pa_cons (pv 0) pa_nil)) (pa_cons (pe_lc (own := [("row", 7)]) (g := (gName 7)) (tt := tYes) (te := (tCB (rListOf K) (tCons (tVar 7) tNil))) rfl sc_law_is_right.nd (pi_seq (pv 1)) (blkOk_by (N := N_law_is_right) (sc := defScope s_law_is_right) (by decide +kernel)) (fun _ _ _ _ _ => (pg_name (i := 7) sc_law_is_right.nd rfl (by first | exact Or.inl rfl | exact Or.inr rfl))) (fun _ _ _ _ _ => pts_nil) (fun _ _ _ _ _ => (pe_callTy call_list_of (by rfl) T.m_list bt_list (pa_cons (pv 7) pa_nil)))) pa_nil))))
 (pss_cons (ps_for PassesOwn.never rfl (pi_seq (pe_op op_addA (pv 2) (pe_slice sl_list (pv 2) po_none (po_some pe_int)))) (pg_name (i := 4) sc_law_is_right.nd rfl (by first | exact Or.inl rfl | exact Or.inr rfl))
 (pss_cons (ps_set (i := 5) sc_law_is_right.nd rfl (by first | exact Or.inl rfl | exact Or.inr rfl) (pe_callTy call_list_of (by rfl) T.m_list bt_list (pa_cons (pe_ix ix_seq (pv 4) pe_int (fun _ _ => rfl)) pa_nil)))
 (pss_cons (ps_set (i := 6) sc_law_is_right.nd rfl (by first | exact Or.inl rfl | exact Or.inr rfl) (pe_call G_best_lot (hr.mono (by decide)) (by rfl) T.g_best_lot T.F_best_lot.kp T.b_best_lot .nil pass0 (pa_cons (pv 3) (pa_cons (pv 5) pa_nil))))
 (pss_cons (ps_if ((pw_or (pt_not (pt_truth (pe_callB call_isi (by rfl) T.m_isinstance bt_isinstance (pa_cons (pv 6) (pa_cons (pe_bltn (v := .ty "list") (by rfl) T.m_list bt_list rfl) pa_nil))) (fun _ => rfl))) (pw_or1 (pt_cmpR op_gt (pe_callB call_lenA (by rfl) T.m_len bt_len (pa_cons (pe_lc (own := [("p", 8)]) (g := (gName 8)) (tt := (tNot (tTru K (tCall (spG K 1 (g_law_is_integer)) [] E0 (tCons (tVar 8) tNil))))) (te := (tVar 8)) rfl sc_law_is_right.nd (pi_seq (pv 6)) (blkOk_by (N := N_law_is_right) (sc := defScope s_law_is_right) (by decide +kernel)) (fun _ _ _ _ _ => (pg_name (i := 8) sc_law_is_right.nd rfl (by first | exact Or.inl rfl | exact Or.inr rfl))) (fun _ _ _ _ _ => (pts_one (pt_not (pt_truth (pe_call G_law_is_integer (hr.mono (by decide)) (by rfl) T.g_law_is_integer T.F_law_is_integer.kp T.b_law_is_integer .nil pass0 (pa_cons (pv 8) pa_nil)) (fun _ => rfl))))) (fun _ _ _ _ _ => (pv 8))) pa_nil)) pe_int (nomark _))))).pt
 (pss_one (ps_ret pe_bl))
 pss_nil)
 (pss_cons (ps_if ((pw_or (pt_cmpR (op_neD hu) (pv 6) (pe_ix ix_seq (pv 4) pe_int (fun _ _ => rfl)) (nomark _)) (pw_or1 (pt_cmpR (op_neD hu) (pv 5) (pe_ix ix_seq (pv 4) pe_int (fun _ _ => rfl)) (nomark _))))).pt
 (pss_one (ps_ret pe_bl))
 pss_nil)
 (pss_cons (ps_expr (pe_bm PySem.F.plainAttrs_list PySem.F.slot_list_append PySem.F.type_list_append mt_append (pv 6) (pa_cons pe_int pa_nil)))
 (pss_one (ps_asg pe_int (pg_sub (pv 6) pe_int set_list)))))))))
 (pss_one (ps_ret (pe_and (pe_cmpR (op_eqD hu) (pe_callTy call_list_of (by rfl) T.m_list bt_list (pa_cons (pe_fld (pv 3) rfl) pa_nil)) (pv 0) (nomark _)) (pe_one (pe_cmpR (op_eqD hu) (pe_lc (own := [("row", 7)]) (g := (gName 7)) (tt := tYes) (te := (tCB (rListOf K) (tCons (tVar 7) tNil))) rfl sc_law_is_right.nd (pi_seq (pe_fld (pv 3) rfl)) (blkOk_by (N := N_law_is_right) (sc := defScope s_law_is_right) (by decide +kernel)) (fun _ _ _ _ _ => (pg_name (i := 7) sc_law_is_right.nd rfl (by first | exact Or.inl rfl | exact Or.inr rfl))) (fun _ _ _ _ _ => pts_nil) (fun _ _ _ _ _ => (pe_callTy call_list_of (by rfl) T.m_list bt_list (pa_cons (pv 7) pa_nil)))) (pv 1) (nomark _)))))))), ?_⟩
  exact ((Zst2.srt_seq (Zst2.srt_of (sr_asg (er_of_eo (eo_make (ar_cons (er_n rc_list (ar_cons (er_var 0) ar_nil)) (ar_cons (er_of_eo (eo_lc (vs := [7]) (ir_seq (er_var 1)) (grc_name (j := 7) (by decide)) tr_yes (er_n rc_list (ar_cons (er_var 7) ar_nil)))) ar_nil)))) (gr'_name 3))) (Zst2.srt_seq (Zst2.srt_for (Zst2.irt_of (ir_seq (er_2 rr_add (er_var 2) (er_sl (er_var 2) or_none (or_some er_int))))) (gr'_name 4) (Zst2.srt_seq (Zst2.srt_of (sr_asg (er_n rc_list (ar_cons (er_2 rr_ix (er_var 4) er_int) ar_nil)) (gr'_name 5))) (Zst2.srt_seq (Zst2.srt_asgO (Zst2.eot_call (Zst2.art_of (ar_cons (er_var 3) (ar_cons (er_var 5) ar_nil))))) (Zst2.srt_of (sr_seq (sr_if (tr_peek (tr_or (tr_not (tr_tru (er_n rc_isi (ar_cons (er_var 6) (ar_cons er_ty ar_nil))))) (tr_test (er_2 rr_gt (er_n rc_len (ar_cons (er_of_eo (eo_lc (vs := [8]) (ir_seq (er_var 6)) (grc_name (j := 8) (by decide)) (tr_not (tr_tru (er_call (ar_cons (er_var 8) ar_nil)))) (er_var 8))) ar_nil)) er_int)))) (sr_ret er_bl) sr_next) (sr_seq (sr_if (tr_peek (tr_or (tr_test (er_2 rr_ne (er_var 6) (er_2 rr_ix (er_var 4) er_int))) (tr_test (er_2 rr_ne (er_var 5) (er_2 rr_ix (er_var 4) er_int))))) (sr_ret er_bl) sr_next) (sr_seq (sr_app (i := 6) er_int) (sr_setI (i := 6) er_int er_int)))))))) (Zst2.srt_of (sr_ret (er_and (er_2 rr_eq (er_n rc_list (ar_cons (er_fld T.cl_Pool T.n_Pool_caps (er_var 3)) ar_nil)) (er_var 0)) (er_2 rr_eq (er_of_eo (eo_lc (vs := [7]) (ir_seq (er_fld T.cl_Pool T.n_Pool_holders (er_var 3))) (grc_name (j := 7) (by decide)) tr_yes (er_n rc_list (ar_cons (er_var 7) ar_nil)))) (er_var 1))))))) : Zst2.SRT K [(P0, lamQ)] _ (t_law_is_right T.c))
theorem sc_law : FnScope N_law ["script"] (defScope s_law) := ⟨rfl, rfl, rfl, by decide +kernel, rfl, by decide +kernel, by decide +kernel⟩
theorem ok_law (T : Txt K mg) {P0 c0 : Addr} (TB : LamX.TabB base mg c0 P0) (hc0 : T.fd_best_lot.code = .ref c0) : FnOk P w K mg base CX0 9 T.f_law T.fd_law ["script"] (Zst2.spT K [(P0, lamQ)] 1 (g_law T.c)) := by
  have G_law_cell := ok_law_cell (P := P) (w := w) (base := base) T
  have G_law_pool := ok_law_pool (P := P) (w := w) (base := base) T
  have G_law_worths := ok_law_worths (P := P) (w := w) (base := base) T
  have G_law_dealable := ok_law_dealable (P := P) (w := w) (base := base) T
  have G_law_collected := ok_law_collected (P := P) (w := w) (base := base) T
  have G_law_is_right := ok_law_is_right (P := P) (w := w) (base := base) T TB hc0
  have G_law_lots := ok_law_lots (P := P) (w := w) (base := base) T
  have G_law_is_best := ok_law_is_best (P := P) (w := w) (base := base) T
  have G_law_draws := ok_law_draws (P := P) (w := w) (base := base) T
  have G_law_apart := ok_law_apart (P := P) (w := w) (base := base) T
  have G_law_collected_apart := ok_law_collected_apart (P := P) (w := w) (base := base) T
  have G_law_joined := ok_law_joined (P := P) (w := w) (base := base) T
  have G_law_collected_in_groups := ok_law_collected_in_groups (P := P) (w := w) (base := base) T
  refine Zst2.fnTO (m := 11) T.F_law sc_law rfl rfl (fun cdv _ A outer s H E hr => ?_)
  have hu := hr.units
  refine ⟨_, (pss_cons (ps_asg (pe_call G_law_pool (hr.mono (by decide)) (by rfl) T.g_law_pool T.F_law_pool.kp T.b_law_pool .nil pass0 (pa_cons (pe_call G_law_cell (hr.mono (by decide)) (by rfl) T.g_law_cell T.F_law_cell.kp T.b_law_cell .nil pass0 (pa_cons (pv 0) (pa_cons pe_int pa_nil))) (pa_cons pe_int pa_nil))) (pg_tup rfl (pgs_cons (pg_name (i := 1) sc_law.nd rfl (by first | exact Or.inl rfl | exact Or.inr rfl)) (pgs_cons (pg_name (i := 2) sc_law.nd rfl (by first | exact Or.inl rfl | exact Or.inr rfl)) pgs_nil))))
 (pss_cons (ps_set (i := 3) sc_law.nd rfl (by first | exact Or.inl rfl | exact Or.inr rfl) (pe_call G_law_worths (hr.mono (by decide)) (by rfl) T.g_law_worths T.F_law_worths.kp T.b_law_worths .nil pass0 (pa_cons (pv 0) (pa_cons pe_int (pa_cons (pe_callB call_lenA (by rfl) T.m_len bt_len (pa_cons (pv 2) pa_nil)) pa_nil)))))
 (pss_cons (ps_set (i := 4) sc_law.nd rfl (by first | exact Or.inl rfl | exact Or.inr rfl) (RT.pe_listRev rfl (by rfl) T.m_list (by rfl) T.m_reversed (pv 3)))
 (pss_cons (ps_set (i := 5) sc_law.nd rfl (by first | exact Or.inl rfl | exact Or.inr rfl) (pe_call G_law_dealable (hr.mono (by decide)) (by rfl) T.g_law_dealable T.F_law_dealable.kp T.b_law_dealable .nil pass0 (pa_cons (pv 1) (pa_cons (pv 2) pa_nil))))
 (pss_cons (ps_set (i := 6) sc_law.nd rfl (by first | exact Or.inl rfl | exact Or.inr rfl) (pe_call G_law_collected (hr.mono (by decide)) (by rfl) T.g_law_collected T.F_law_collected.kp T.b_law_collected .nil pass0 (pa_cons (pv 3) (pa_cons (pv 5) pa_nil))))
 (pss_cons (ps_if (pt_not (pt_truth (pe_call G_law_is_right (hr.mono (by decide)) (by rfl) T.g_law_is_right T.F_law_is_right.kp T.b_law_is_right .nil pass0 (pa_cons (pv 1) (pa_cons (pv 2) (pa_cons (pe_lst (pa_cons (pe_tup (pa_cons (pv 3) (pa_cons (pv 6) pa_nil))) (pa_cons (pe_tup (pa_cons (pv 4) (pa_cons (pe_call G_law_collected (hr.mono (by decide)) (by rfl) T.g_law_collected T.F_law_collected.kp T.b_law_collected .nil pass0 (pa_cons (pv 4) (pa_cons (pv 5) pa_nil))) pa_nil))) (pa_cons (pe_tup (pa_cons (pv 3) (pa_cons (pv 6) pa_nil))) pa_nil)))) pa_nil)))) (fun _ => rfl)))
 (pss_one (ps_ret pe_bl))
 pss_nil)
 (pss_cons (ps_set (i := 7) sc_law.nd rfl (by first | exact Or.inl rfl | exact Or.inr rfl) (pe_call G_law_lots (hr.mono (by decide)) (by rfl) T.g_law_lots T.F_law_lots.kp T.b_law_lots .nil pass0 (pa_cons (pe_callB call_lenA (by rfl) T.m_len bt_len (pa_cons (pv 2) pa_nil)) pa_nil)))
 (pss_cons (ps_for PassesOwn.never rfl (pi_range1 (by rfl) T.m_range (pa_cons (pe_callB call_lenA (by rfl) T.m_len bt_len (pa_cons (pv 7) pa_nil)) pa_nil)) (pg_name (i := 8) sc_law.nd rfl (by first | exact Or.inl rfl | exact Or.inr rfl))
 (pss_one (ps_if ((pw_and (pt_truth (pe_ix ix_seq (pv 5) (pv 8) (fun _ _ => rfl)) (fun _ => rfl)) (pw_and1 (pt_not (pt_truth (pe_call G_law_is_best (hr.mono (by decide)) (by rfl) T.g_law_is_best T.F_law_is_best.kp T.b_law_is_best .nil pass0 (pa_cons (pv 3) (pa_cons (pv 6) (pa_cons (pe_ix ix_seq (pv 7) (pv 8) (fun _ _ => rfl)) pa_nil)))) (fun _ => rfl)))))).pt
 (pss_one (ps_ret pe_bl))
 pss_nil)))
 (pss_cons (ps_if (pt_cmpR (op_eqD hu) (pe_ix ix_seq (pe_call G_law_draws (hr.mono (by decide)) (by rfl) T.g_law_draws T.F_law_draws.kp T.b_law_draws .nil pass0 (pa_cons (pe_call G_law_cell (hr.mono (by decide)) (by rfl) T.g_law_cell T.F_law_cell.kp T.b_law_cell .nil pass0 (pa_cons (pv 0) (pa_cons pe_int pa_nil))) (pa_cons (pe_lst (pa_cons pe_int pa_nil)) pa_nil))) pe_int (fun _ _ => rfl)) pe_int (nomark _))
 (pss_cons (ps_asg (pe_call G_law_apart (hr.mono (by decide)) (by rfl) T.g_law_apart T.F_law_apart.kp T.b_law_apart .nil pass0 (pa_cons (pe_call G_law_cell (hr.mono (by decide)) (by rfl) T.g_law_cell T.F_law_cell.kp T.b_law_cell .nil pass0 (pa_cons (pv 0) (pa_cons pe_int pa_nil))) pa_nil)) (pg_tup rfl (pgs_cons (pg_name (i := 1) sc_law.nd rfl (by first | exact Or.inl rfl | exact Or.inr rfl)) (pgs_cons (pg_name (i := 2) sc_law.nd rfl (by first | exact Or.inl rfl | exact Or.inr rfl)) pgs_nil))))
 (pss_cons (ps_set (i := 3) sc_law.nd rfl (by first | exact Or.inl rfl | exact Or.inr rfl) (pe_call G_law_worths (hr.mono (by decide)) (by rfl) T.g_law_worths T.F_law_worths.kp T.b_law_worths .nil pass0 (pa_cons (pv 0) (pa_cons pe_int (pa_cons (pe_callB call_lenA (by rfl) T.m_len bt_len (pa_cons (pv 2) pa_nil)) pa_nil)))))
 (pss_one (ps_ret (pe_call G_law_is_right (hr.mono (by decide)) (by rfl) T.g_law_is_right T.F_law_is_right.kp T.b_law_is_right .nil pass0 (pa_cons (pv 1) (pa_cons (pv 2) (pa_cons (pe_lst (pa_cons (pe_tup (pa_cons (pv 3) (pa_cons (pe_call G_law_collected_apart (hr.mono (by decide)) (by rfl) T.g_law_collected_apart T.F_law_collected_apart.kp T.b_law_collected_apart .nil pass0 (pa_cons (pv 1) (pa_cons (pv 2) (pa_cons (pv 3) pa_nil)))) pa_nil))) pa_nil)) pa_nil))))))))
 pss_nil)
 (pss_cons (ps_set (i := 9) sc_law.nd rfl (by first | exact Or.inl rfl | exact Or.inr rfl) (pe_lst (pa_cons (pe_call G_law_pool (hr.mono (by decide)) (by rfl) T.g_law_pool T.F_law_pool.kp T.b_law_pool .nil pass0 (pa_cons (pe_op op_addA (pe_callTy call_int1 (by rfl) T.m_int bt_int (pa_cons (pe_call G_law_cell (hr.mono (by decide)) (by rfl) T.g_law_cell T.F_law_cell.kp T.b_law_cell .nil pass0 (pa_cons (pv 0) (pa_cons pe_int pa_nil))) pa_nil)) pe_int) (pa_cons pe_int pa_nil))) (pa_cons (pe_call G_law_pool (hr.mono (by decide)) (by rfl) T.g_law_pool T.F_law_pool.kp T.b_law_pool .nil pass0 (pa_cons (pe_op op_addA (pe_callTy call_int1 (by rfl) T.m_int bt_int (pa_cons (pe_call G_law_cell (hr.mono (by decide)) (by rfl) T.g_law_cell T.F_law_cell.kp T.b_law_cell .nil pass0 (pa_cons (pv 0) (pa_cons pe_int pa_nil))) pa_nil)) pe_int) (pa_cons pe_int pa_nil))) pa_nil))))
 (pss_cons (ps_asg (pe_call G_law_joined (hr.mono (by decide)) (by rfl) T.g_law_joined T.F_law_joined.kp T.b_law_joined .nil pass0 (pa_cons (pe_ix ix_seq (pv 9) pe_int (fun _ _ => rfl)) (pa_cons (pe_ix ix_seq (pv 9) pe_int (fun _ _ => rfl)) pa_nil))) (pg_tup rfl (pgs_cons (pg_name (i := 1) sc_law.nd rfl (by first | exact Or.inl rfl | exact Or.inr rfl)) (pgs_cons (pg_name (i := 2) sc_law.nd rfl (by first | exact Or.inl rfl | exact Or.inr rfl)) (pgs_cons (pg_name (i := 10) sc_law.nd rfl (by first | exact Or.inl rfl | exact Or.inr rfl)) pgs_nil)))))
 (pss_cons (ps_set (i := 3) sc_law.nd rfl (by first | exact Or.inl rfl | exact Or.inr rfl) (pe_call G_law_worths (hr.mono (by decide)) (by rfl) T.g_law_worths T.F_law_worths.kp T.b_law_worths .nil pass0 (pa_cons (pv 0) (pa_cons pe_int (pa_cons (pe_callB call_lenA (by rfl) T.m_len bt_len (pa_cons (pv 2) pa_nil)) pa_nil)))))
 (pss_cons (ps_set (i := 4) sc_law.nd rfl (by first | exact Or.inl rfl | exact Or.inr rfl) (RT.pe_listRev rfl (by rfl) T.m_list (by rfl) T.m_reversed (pv 3)))
 (pss_cons (ps_set (i := 6) sc_law.nd rfl (by first | exact Or.inl rfl | exact Or.inr rfl) (pe_call G_law_collected_in_groups (hr.mono (by decide)) (by rfl) T.g_law_collected_in_groups T.F_law_collected_in_groups.kp T.b_law_collected_in_groups .nil pass0 (pa_cons (pv 9) (pa_cons (pv 10) (pa_cons (pv 3) pa_nil)))))
 (pss_cons (ps_set (i := 11) sc_law.nd rfl (by first | exact Or.inl rfl | exact Or.inr rfl) (pe_call G_law_collected_in_groups (hr.mono (by decide)) (by rfl) T.g_law_collected_in_groups T.F_law_collected_in_groups.kp T.b_law_collected_in_groups .nil pass0 (pa_cons (pv 9) (pa_cons (pv 10) (pa_cons (pv 4) pa_nil)))))
 (pss_one (ps_ret (pe_call G_law_is_right (hr.mono (by decide)) (by rfl) T.g_law_is_right T.F_law_is_right.kp T.b_law_is_right .nil pass0 (pa_cons (pv 1) (pa_cons (pv 2) (pa_cons (pe_lst (pa_cons (pe_tup (pa_cons (pv 3) (pa_cons (pv 6) pa_nil))) (pa_cons (pe_tup (pa_cons (pv 4) (pa_cons (pv 11) pa_nil))) pa_nil))) pa_nil))))))))))))))))))))), ?_⟩
  exact ((Zst2.srt_seq (Zst2.srt_of (sr_asg (er_call (ar_cons (er_call (ar_cons (er_var 0) (ar_cons er_int ar_nil))) (ar_cons er_int ar_nil))) (gr'_tup (n := 2) (grs'_cons (gr'_name 1) (grs'_cons (gr'_name 2) grs'_nil))))) (Zst2.srt_seq (Zst2.srt_of (sr_asg (er_call (ar_cons (er_var 0) (ar_cons er_int (ar_cons (er_n rc_len (ar_cons (er_var 2) ar_nil)) ar_nil)))) (gr'_name 3))) (Zst2.srt_seq (Zst2.srt_of (sr_asg (er_listRev (er_var 3)) (gr'_name 4))) (Zst2.srt_seq (Zst2.srt_of (sr_asg (er_call (ar_cons (er_var 1) (ar_cons (er_var 2) ar_nil))) (gr'_name 5))) (Zst2.srt_seq (Zst2.srt_of (sr_asg (er_call (ar_cons (er_var 3) (ar_cons (er_var 5) ar_nil))) (gr'_name 6))) (Zst2.srt_seq (Zst2.srt_if (Zst2.trt_not (Zst2.trt_tru (Zst2.ert_call (Zst2.art_of (ar_cons (er_var 1) (ar_cons (er_var 2) (ar_cons (er_lst (ar_cons (er_tup (ar_cons (er_var 3) (ar_cons (er_var 6) ar_nil))) (ar_cons (er_tup (ar_cons (er_var 4) (ar_cons (er_call (ar_cons (er_var 4) (ar_cons (er_var 5) ar_nil))) ar_nil))) (ar_cons (er_tup (ar_cons (er_var 3) (ar_cons (er_var 6) ar_nil))) ar_nil)))) ar_nil))))))) (Zst2.srt_of (sr_ret er_bl)) (Zst2.srt_of sr_next)) (Zst2.srt_seq (Zst2.srt_of (sr_asg (er_call (ar_cons (er_n rc_len (ar_cons (er_var 2) ar_nil)) ar_nil)) (gr'_name 7))) (Zst2.srt_seq (Zst2.srt_of (sr_for (ir_rng1 (ar_cons (er_n rc_len (ar_cons (er_var 7) ar_nil)) ar_nil)) (gr'_name 8) (sr_if (tr_and (tr_tru (er_2 rr_ix (er_var 5) (er_var 8))) (tr_not (tr_tru (er_call (ar_cons (er_var 3) (ar_cons (er_var 6) (ar_cons (er_2 rr_ix (er_var 7) (er_var 8)) ar_nil))))))) (sr_ret er_bl) sr_next))) (Zst2.srt_seq (Zst2.srt_if (Zst2.trt_of (tr_test (er_2 rr_eq (er_2 rr_ix (er_call (ar_cons (er_call (ar_cons (er_var 0) (ar_cons er_int ar_nil))) (ar_cons (er_lst (ar_cons er_int ar_nil)) ar_nil))) er_int) er_int))) (Zst2.srt_seq (Zst2.srt_of (sr_asg (er_call (ar_cons (er_call (ar_cons (er_var 0) (ar_cons er_int ar_nil))) ar_nil)) (gr'_tup (n := 2) (grs'_cons (gr'_name 1) (grs'_cons (gr'_name 2) grs'_nil))))) (Zst2.srt_seq (Zst2.srt_of (sr_asg (er_call (ar_cons (er_var 0) (ar_cons er_int (ar_cons (er_n rc_len (ar_cons (er_var 2) ar_nil)) ar_nil)))) (gr'_name 3))) (Zst2.srt_ret (Zst2.ert_call (Zst2.art_of (ar_cons (er_var 1) (ar_cons (er_var 2) (ar_cons (er_lst (ar_cons (er_tup (ar_cons (er_var 3) (ar_cons (er_call (ar_cons (er_var 1) (ar_cons (er_var 2) (ar_cons (er_var 3) ar_nil)))) ar_nil))) ar_nil)) ar_nil)))))))) (Zst2.srt_of sr_next)) (Zst2.srt_seq (Zst2.srt_of (sr_asg (er_lst (ar_cons (er_call (ar_cons (er_2 rr_add (er_n rc_int (ar_cons (er_call (ar_cons (er_var 0) (ar_cons er_int ar_nil))) ar_nil)) er_int) (ar_cons er_int ar_nil))) (ar_cons (er_call (ar_cons (er_2 rr_add (er_n rc_int (ar_cons (er_call (ar_cons (er_var 0) (ar_cons er_int ar_nil))) ar_nil)) er_int) (ar_cons er_int ar_nil))) ar_nil))) (gr'_name 9))) (Zst2.srt_seq (Zst2.srt_of (sr_asg (er_call (ar_cons (er_2 rr_ix (er_var 9) er_int) (ar_cons (er_2 rr_ix (er_var 9) er_int) ar_nil))) (gr'_tup (n := 3) (grs'_cons (gr'_name 1) (grs'_cons (gr'_name 2) (grs'_cons (gr'_name 10) grs'_nil)))))) (Zst2.srt_seq (Zst2.srt_of (sr_asg (er_call (ar_cons (er_var 0) (ar_cons er_int (ar_cons (er_n rc_len (ar_cons (er_var 2) ar_nil)) ar_nil)))) (gr'_name 3))) (Zst2.srt_seq (Zst2.srt_of (sr_asg (er_listRev (er_var 3)) (gr'_name 4))) (Zst2.srt_seq (Zst2.srt_of (sr_asg (er_call (ar_cons (er_var 9) (ar_cons (er_var 10) (ar_cons (er_var 3) ar_nil)))) (gr'_name 6))) (Zst2.srt_seq (Zst2.srt_of (sr_asg (er_call (ar_cons (er_var 9) (ar_cons (er_var 10) (ar_cons (er_var 4) ar_nil)))) (gr'_name 11))) (Zst2.srt_ret (Zst2.ert_call (Zst2.art_of (ar_cons (er_var 1) (ar_cons (er_var 2) (ar_cons (er_lst (ar_cons (er_tup (ar_cons (er_var 3) (ar_cons (er_var 6) ar_nil))) (ar_cons (er_tup (ar_cons (er_var 4) (ar_cons (er_var 11) ar_nil))) ar_nil))) ar_nil))))))))))))))))))))) : Zst2.SRT K [(P0, lamQ)] _ (t_law T.c))
end
end Y
end

section
set_option Elab.async false
set_option linter.all false
set_option maxRecDepth 100000
set_option autoImplicit false
set_option maxHeartbeats 2000000
/-! Loops by a word. -/
namespace Zk
open PySem L2
def StepTo (o : Option Out) (J : Gm → Prop) : Prop := ∃ g, (o = some (.nx g) ∨ o = some (.ct g)) ∧ J g
theorem step_nx {g : Gm} {J : Gm → Prop} (h : J g) : StepTo (some (.nx g)) J := ⟨g, .inl rfl, h⟩
def Gets (o : Option Wd) (C : Wd → Prop) : Prop := ∃ w, o = some w ∧ C w
theorem gets_some {w : Wd} {C : Wd → Prop} (h : C w) : Gets (some w) C := ⟨w, rfl, h⟩
theorem loop_by {f : DGF} {s : SF} {ds : List D} (I : Nat → Gm → Prop) {g : Gm} (h0 : I 0 g) (hs : ∀ (i : Nat) (d : D) (g : Gm), ds[i]? = some d → I i g → ∃ g1, f d g = some g1 ∧ StepTo (s g1) (I (i + 1))) :
    ∃ g', loopD f s ds g = some (.nx g') ∧ I ds.length g' := loop_inv I h0 fun i d g hd hI => by
  obtain ⟨g1, h1, g2, h2, h3⟩ := hs i d g hd hI
  exact ⟨g1, g2, h1, h2, h3⟩
theorem loop_then {f : DGF} {s q : SF} {ds : List D} {C : Option Out → Prop} (I : Nat → Gm → Prop) {g : Gm} (h0 : I 0 g) (hs : ∀ (i : Nat) (d : D) (g : Gm), ds[i]? = some d → I i g → ∃ g1, f d g = some g1 ∧ StepTo (s g1) (I (i + 1)))
    (k : ∀ g', I ds.length g' → C (q g')) : C (apSeq (loopD f s ds g) q) := by
  obtain ⟨g', e, h⟩ := loop_by I h0 hs
  rw [e]
  exact k g' h
/-- over a range, the turn's number in slot k -/
theorem rng_by {s : SF} {n k : Nat} (I : Nat → Gm → Prop) {g : Gm} (h0 : I 0 g) (hk : ∀ i g, I i g → okSlot g k = true) (hs : ∀ (i : Nat) (g : Gm), i < n → I i g → StepTo (s (g.set k (some (.v (.int (i : Int)))))) (I (i + 1))) :
    ∃ g', loopD (dName k) s (rngL 0 n) g = some (.nx g') ∧ I n g' := by
  obtain ⟨g', e, h⟩ := loop_by (f := dName k) (s := s) (ds := rngL 0 n) I h0 fun i d g hd hI => by
    obtain ⟨hi, rfl⟩ := rng_get hd
    exact ⟨_, dName_ok (hk i g hI), by rw [Int.zero_add]; exact hs i g hi hI⟩
  rw [rng_len] at h
  exact ⟨g', e, h⟩
theorem rng_then {s q : SF} {n k : Nat} {C : Option Out → Prop} (I : Nat → Gm → Prop) {g : Gm} (h0 : I 0 g) (hk : ∀ i g, I i g → okSlot g k = true) (hs : ∀ (i : Nat) (g : Gm), i < n → I i g → StepTo (s (g.set k (some (.v (.int (i : Int)))))) (I (i + 1)))
    (kk : ∀ g', I n g' → C (q g')) : C (apSeq (loopD (dName k) s (rngL 0 n) g) q) := by
  obtain ⟨g', e, h⟩ := rng_by I h0 hk hs
  rw [e]
  exact kk g' h
/-- numbers below their sizes -/
def Below (ds sizes : List Int) : Prop := ds.length = sizes.length ∧ ∀ (i : Nat) (d s : Int), ds[i]? = some d → sizes[i]? = some s → 0 ≤ d ∧ d < s
theorem Below.get {ds sizes : List Int} (h : Below ds sizes) {i : Nat} {s : Int} (hs : sizes[i]? = some s) : ∃ d, ds[i]? = some d ∧ 0 ≤ d ∧ d < s := by
  have hi : i < sizes.length := (List.getElem?_eq_some_iff.mp hs).1
  rw [← h.1] at hi
  exact ⟨ds[i], List.getElem?_eq_getElem hi, h.2 i _ s (List.getElem?_eq_getElem hi) hs⟩
theorem pow10_12 : powD (.int 10) (.int 12) = some (.int 1000000000000) := by rfl
theorem pow10_18 : powD (.int 10) (.int 18) = some (.int 1000000000000000000) := by rfl
theorem pow10_39 : powD (.int 10) (.int 39) = some (.int (10 ^ 39)) := by rfl
theorem pow10_41 : powD (.int 10) (.int 41) = some (.int (10 ^ 41)) := by rfl
theorem pow10_59 : powD (.int 10) (.int 59) = some (.int (10 ^ 59)) := by rfl
theorem pow10_60 : powD (.int 10) (.int 60) = some (.int (10 ^ 60)) := by rfl
theorem ix_i {ns : List Int} {m : Nat} {j : Int} (h : ns[m]? = some j) : ixD (.lst (iL ns)) (.int (m : Int)) = some (.int j) := ix_l (by rw [iL_get, h] <;> rfl)

theorem mul_lz {ds : List D} {k : Int} (h : k ≤ 100000 ∧ -100000 ≤ k ∧ ds.length * k.toNat ≤ 100000) : mulD (.lst ds) (.int k) = some (.lst (List.replicate k.toNat ds).flatten) := if_pos h
/-- ascending numbers below n -/
def Asc (n : Nat) (hs : List Int) : Prop := hs.Pairwise (· < ·) ∧ ∀ h ∈ hs, 0 ≤ h ∧ h < (n : Int)
def rngI (lo : Int) (n : Nat) : List Int := (List.range n).map fun i => lo + ((i : Nat) : Int)
theorem rngI_pw (lo : Int) (n : Nat) : (rngI lo n).Pairwise (· < ·) := by
  unfold rngI
  rw [List.pairwise_map]
  exact List.pairwise_lt_range.imp fun {a b} h => by omega
theorem rngI_mem {lo : Int} {n : Nat} {k : Int} : k ∈ rngI lo n ↔ lo ≤ k ∧ k < lo + n := by
  unfold rngI
  rw [List.mem_map]
  constructor
  · rintro ⟨i, hi, rfl⟩
    rw [List.mem_range] at hi
    omega
  · rintro ⟨h1, h2⟩
    exact ⟨(k - lo).toNat, List.mem_range.mpr (by omega), by omega⟩
theorem Asc.sub {n : Nat} {hs : List Int} (h : hs.Sublist (rngI 0 n)) : Asc n hs :=
  ⟨(rngI_pw 0 n).sublist h, fun k hk => by have := rngI_mem.mp (h.subset hk); omega⟩
theorem Asc.nodup {n : Nat} {hs : List Int} (h : Asc n hs) : hs.Nodup := h.1.imp fun q => by omega
theorem Asc.len {n : Nat} {hs : List Int} (h : Asc n hs) : hs.length ≤ n := by
  have s : ∀ (ks : List Int) (m : Int), ks.Pairwise (· < ·) → (∀ k ∈ ks, m ≤ k ∧ k < (n : Int)) → m ≤ n → (ks.length : Int) ≤ n - m := by
    intro ks
    induction ks with
    | nil => intro m _ _ hm; simp; omega
    | cons k ks ih =>
      intro m hp hk hm
      have hp' := List.pairwise_cons.mp hp
      have := hk k List.mem_cons_self
      have ih := ih (k + 1) hp'.2 (fun j hj => ⟨by have := hp'.1 j hj; omega, (hk j (List.mem_cons_of_mem _ hj)).2⟩) (by omega)
      rw [List.length_cons]
      omega
  have := s hs 0 h.1 (fun k hk => h.2 k hk) (by omega)
  omega
/-- a comprehension over a range that hands on its own numbers -/
theorem lc_sub {tg : DGF} {tt : DTF} {te : DF} {g : Gm} (lo : Int) : ∀ (is : List Nat), (∀ i, i ∈ is → ∃ g1 b, tg (.int (lo + (i : Nat))) g = some g1 ∧ tt g1 = some b ∧ te g1 = some (.int (lo + (i : Nat)))) →
    ∃ ns, lcL tg tt te g (is.map fun i => .int (lo + ((i : Nat) : Int))) = some (iL ns) ∧ ns.Sublist (is.map fun i => lo + ((i : Nat) : Int))
  | [], _ => ⟨[], rfl, .slnil⟩
  | i :: is, h => by
    obtain ⟨g1, b, h1, h2, h3⟩ := h i List.mem_cons_self
    obtain ⟨ns, h4, h5⟩ := lc_sub lo is fun i hi => h i (List.mem_cons_of_mem _ hi)
    rw [List.map_cons, List.map_cons]
    unfold lcL
    rw [h1, Option.bind_some, h2, Option.bind_some]
    cases b with
    | true => exact ⟨(lo + (i : Nat)) :: ns, by rw [if_pos rfl, h3, Option.bind_some, h4]; rfl, h5.cons_cons _⟩
    | false => exact ⟨ns, by rw [if_neg Bool.false_ne_true, h4], h5.cons _⟩
theorem lc_rng {tg : DGF} {tt : DTF} {te : DF} {g : Gm} {n : Nat} (h : ∀ i, i < n → ∃ g1 b, tg (.int (i : Nat)) g = some g1 ∧ tt g1 = some b ∧ te g1 = some (.int (i : Nat))) :
    ∃ ns, lcL tg tt te g (rngL 0 n) = some (iL ns) ∧ Asc n ns := by
  obtain ⟨ns, h1, h2⟩ := lc_sub (tg := tg) (tt := tt) (te := te) (g := g) 0 (List.range n) fun i hi => by
    rw [Int.zero_add]
    exact h i (List.mem_range.mp hi)
  exact ⟨ns, h1, Asc.sub h2⟩
/-- pairs -/
def pr (a b : Int) : D := .tup [.int a, .int b]
def rowP (n a : Nat) : List D := (List.range (n - (a + 1))).map fun j => pr (a : Int) (((a + 1 + j : Nat)) : Int)
def pairsL (n : Nat) : List D := (List.range n).flatMap (rowP n)
theorem pairsL_mem {n : Nat} {d : D} (h : d ∈ pairsL n) : ∃ a b : Nat, d = pr a b ∧ a < b ∧ b < n := by
  unfold pairsL rowP at h
  obtain ⟨a, ha, h⟩ := List.mem_flatMap.mp h
  obtain ⟨j, hj, h⟩ := List.mem_map.mp h
  rw [List.mem_range] at ha hj
  exact ⟨a, a + 1 + j, h.symm, by omega, by omega⟩
theorem rowP_len (n a : Nat) : (rowP n a).length = n - (a + 1) := by unfold rowP; rw [List.length_map, List.length_range]
theorem flat_len (n : Nat) : ∀ m : Nat, ((List.range m).flatMap (rowP n)).length ≤ m * n
  | 0 => by simp
  | m + 1 => by
    rw [List.range_succ, List.flatMap_append, List.length_append]
    have := flat_len n m
    have e : ([m].flatMap (rowP n)).length = n - (m + 1) := by simp [rowP_len]
    rw [e, Nat.add_one_mul]
    omega

theorem seq_then {o : Option Out} {q : SF} {C : Option Out → Prop} (J : Gm → Prop) (h : ∃ g, o = some (.nx g) ∧ J g) (k : ∀ g, J g → C (q g)) : C (apSeq o q) := by
  obtain ⟨g, e, h⟩ := h
  rw [e]
  exact k g h
/-- a comprehension over a range whose items are ints of a kind -/
theorem lc_all {tg : DGF} {tt : DTF} {te : DF} {g : Gm} (P : Int → Prop) : ∀ (is : List D), (∀ d, d ∈ is → ∃ g1 x, tg d g = some g1 ∧ tt g1 = some true ∧ te g1 = some (.int x) ∧ P x) →
    ∃ xs, lcL tg tt te g is = some (iL xs) ∧ xs.length = is.length ∧ ∀ x ∈ xs, P x
  | [], _ => ⟨[], rfl, rfl, fun x h => by cases h⟩
  | d :: is, h => by
    obtain ⟨g1, x, h1, h2, h3, h4⟩ := h d List.mem_cons_self
    obtain ⟨xs, h5, h6, h7⟩ := lc_all P is fun d hd => h d (List.mem_cons_of_mem _ hd)
    refine ⟨x :: xs, ?_, by rw [List.length_cons, List.length_cons, h6], fun y hy => ?_⟩
    · unfold lcL
      rw [h1, Option.bind_some, h2, Option.bind_some, if_pos rfl, h3, Option.bind_some, h5]
      rfl
    · rcases List.mem_cons.mp hy with e | e
      · rw [e]; exact h4
      · exact h7 y e
theorem ix_tup_in {ds : List Int} {k : Int} (h0 : 0 ≤ k) (h : k < ds.length) : ∃ x, x ∈ ds ∧ ixD (.tup (iL ds)) (.int k) = some (.int x) := by
  obtain ⟨m, rfl⟩ := Int.eq_ofNat_of_zero_le h0
  have hm : m < ds.length := by omega
  exact ⟨ds[m], List.getElem_mem hm, ix_t (by rw [iL_get, List.getElem?_eq_getElem hm] <;> rfl)⟩
theorem ix_lst_in {ds : List Int} {k : Int} (h0 : 0 ≤ k) (h : k < ds.length) : ∃ x, x ∈ ds ∧ ixD (.lst (iL ds)) (.int k) = some (.int x) := by
  obtain ⟨m, rfl⟩ := Int.eq_ofNat_of_zero_le h0
  have hm : m < ds.length := by omega
  exact ⟨ds[m], List.getElem_mem hm, ix_l (by rw [iL_get, List.getElem?_eq_getElem hm] <;> rfl)⟩
theorem ix_mem {ds : List D} {k : Int} (h0 : 0 ≤ k) (h : k < ds.length) : ∃ d, d ∈ ds ∧ ixD (.lst ds) (.int k) = some d := by
  obtain ⟨m, rfl⟩ := Int.eq_ofNat_of_zero_le h0
  have hm : m < ds.length := by omega
  exact ⟨ds[m], List.getElem_mem hm, ix_l (List.getElem?_eq_getElem hm)⟩
/-- what was drawn, at a place -/
theorem Below.ix {ds sizes : List Int} (h : Below ds sizes) {m : Nat} {k s : Int} (e : k = (m : Int)) (hs : sizes[m]? = some s) : ∃ d, ixD (.lst (iL ds)) (.int k) = some (.int d) ∧ 0 ≤ d ∧ d < s := by
  obtain ⟨d, h1, h2⟩ := h.get hs
  exact ⟨d, by rw [e]; exact ix_i h1, h2⟩
theorem flat4_iL (ns : List Int) : (iL ns).all D.flat4 = true := by
  unfold iL
  rw [List.all_map]
  exact List.all_eq_true.mpr fun x _ => rfl
theorem any_iL (ns : List Int) (k : Int) : ((iL ns).any fun z => eqF z (.int k)) = ns.contains k := by
  unfold iL
  rw [List.any_map, List.contains_eq_any_beq]
  congr 1
  funext x
  show (x == k) = (k == x)
  exact Bool.eq_iff_iff.mpr ⟨fun h => by rw [eq_of_beq h]; exact beq_self_eq_true _, fun h => by rw [eq_of_beq h]; exact beq_self_eq_true _⟩
theorem in_l {ns : List Int} {k : Int} : inD (.int k) (.lst (iL ns)) = some (.bl (ns.contains k)) := by
  show (if ((D.int k).flat4 && (iL ns).all D.flat4) = true then some ((iL ns).any fun z => eqF z (.int k)) else none).map D.bl = _
  rw [flat4_iL, any_iL]
  rfl
theorem in_t {ns : List Int} {k : Int} : inD (.int k) (.tup (iL ns)) = some (.bl (ns.contains k)) := by
  show (if ((D.int k).flat4 && (iL ns).all D.flat4) = true then some ((iL ns).any fun z => eqF z (.int k)) else none).map D.bl = _
  rw [flat4_iL, any_iL]
  rfl
theorem in_pr {a b k : Int} : inD (.int k) (pr a b) = some (.bl ([a, b].contains k)) := in_t (ns := [a, b])
/-- rows of seats -/
def rowsL (hs : List (List Int)) : List D := hs.map fun h => .lst (iL h)
def rowsT (hs : List (List Int)) : List D := hs.map fun h => .tup (iL h)
structure PoolOk (caps : List Int) (hs : List (List Int)) (m : Nat) : Prop where
  s1 : 1 ≤ caps.length
  s12 : caps.length ≤ 12
  c0 : ∀ c ∈ caps, 0 ≤ c ∧ c < 10 ^ 60
  pm : hs.length ≤ m
  asc : ∀ h ∈ hs, Asc caps.length h
theorem call1 {gf : PF} {a0 : D} : apCall 1 gf (some [a0]) = (gf [a0]).map Wd.d := (rfl)
theorem callO1 {gf : PF} {a0 : D} : apCallO 1 gf (some [a0]) = toO (gf [a0]) := (rfl)
theorem call2 {gf : PF} {a0 a1 : D} : apCall 2 gf (some [a0, a1]) = (gf [a0, a1]).map Wd.d := (rfl)
theorem callO2 {gf : PF} {a0 a1 : D} : apCallO 2 gf (some [a0, a1]) = toO (gf [a0, a1]) := (rfl)
theorem call3 {gf : PF} {a0 a1 a2 : D} : apCall 3 gf (some [a0, a1, a2]) = (gf [a0, a1, a2]).map Wd.d := (rfl)
theorem callO3 {gf : PF} {a0 a1 a2 : D} : apCallO 3 gf (some [a0, a1, a2]) = toO (gf [a0, a1, a2]) := (rfl)
theorem call4 {gf : PF} {a0 a1 a2 a3 : D} : apCall 4 gf (some [a0, a1, a2, a3]) = (gf [a0, a1, a2, a3]).map Wd.d := (rfl)
theorem callO4 {gf : PF} {a0 a1 a2 a3 : D} : apCallO 4 gf (some [a0, a1, a2, a3]) = toO (gf [a0, a1, a2, a3]) := (rfl)
theorem call5 {gf : PF} {a0 a1 a2 a3 a4 : D} : apCall 5 gf (some [a0, a1, a2, a3, a4]) = (gf [a0, a1, a2, a3, a4]).map Wd.d := (rfl)
theorem callO5 {gf : PF} {a0 a1 a2 a3 a4 : D} : apCallO 5 gf (some [a0, a1, a2, a3, a4]) = toO (gf [a0, a1, a2, a3, a4]) := (rfl)
theorem call6 {gf : PF} {a0 a1 a2 a3 a4 a5 : D} : apCall 6 gf (some [a0, a1, a2, a3, a4, a5]) = (gf [a0, a1, a2, a3, a4, a5]).map Wd.d := (rfl)
theorem callO6 {gf : PF} {a0 a1 a2 a3 a4 a5 : D} : apCallO 6 gf (some [a0, a1, a2, a3, a4, a5]) = toO (gf [a0, a1, a2, a3, a4, a5]) := (rfl)
theorem dgTup2_a {m : DGFs} {a b : D} {g : Gm} : dgTup 2 m (.tup [a, b]) g = m [a, b] g := rfl
theorem dgTup3_a {m : DGFs} {a b e : D} {g : Gm} : dgTup 3 m (.tup [a, b, e]) g = m [a, b, e] g := rfl
end Zk
end

section
set_option Elab.async false
set_option linter.all false
set_option maxRecDepth 100000
set_option maxHeartbeats 2000000
/-! What the laws' own helpers are worth. -/
namespace Zc
open PySem L2 Zk
structure Cs where
  Pool : Addr
def t_are_different : SF :=
 (sSeq (sIf (dNotT (tDt truD (dN allD (aCons (dLc (dItems (dVar 0)) (dName 2) dYes (dChain leD ltD (dC (.int 0)) (dVar 2) (dVar 1)) [2]) aNil))))
 (sRet (dC (.bl false)))
 sNext)
 (sRet (d2 eqD (d1 lenSetD (dVar 0)) (dN lenD (aCons (dVar 0) aNil)))))
def g_are_different : PF := runG 1 (t_are_different)
def t_ordered_holders : SF :=
 (sSeq (sFor (dEnum (aCons (dVar 0) aNil)) (dgTup 2 (dgCons (dName 2) (dgCons (dName 3) dgNil)))
 (sIf (dNotT (tDt truD (dCall 2 (g_are_different) (aCons (dVar 3) (aCons (dVar 1) aNil)))))
 sNever
 sNext))
 (sRet (dN tupleD (aCons (dLc (dItems (dVar 0)) (dName 3) dYes (dN tupleD (aCons (dN sortedD (aCons (dVar 3) aNil)) aNil)) [3]) aNil))))
def g_ordered_holders : PF := runG 2 (t_ordered_holders)
def t_Pool_init (c : Cs) : SF :=
 (sSeq (sIf (dOrT (tDt blD (d2 eqD (dN lenD (aCons (dVar 1) aNil)) (dC (.int 0)))) (tDt blD (d2 ltD (dN minD (aCons (dVar 1) aNil)) (dC (.int 0)))))
 sNever
 sNext)
 (sSeq (sFldD c.Pool 0 "caps" (dN tupleD (aCons (dVar 1) aNil)))
 (sSeq (sFldD c.Pool 0 "holders" (dCall 2 (g_ordered_holders) (aCons (dVar 2) (aCons (dN lenD (aCons (dVar 1) aNil)) aNil))))
 (sSeq (sFldD c.Pool 0 "seats" (peekF (dN lenD (aCons (d1 (fldD c.Pool "caps") (dVar 0)) aNil))))
 (sFldD c.Pool 0 "pieces" (peekF (dN lenD (aCons (d1 (fldD c.Pool "holders") (dVar 0)) aNil))))))))
def g_Pool_init (c : Cs) : List D → Option (List (Str × D)) := Zk.runI c.Pool 0 (t_Pool_init c)
def t_pair_room (c : Cs) : SF :=
 (sSeq (sAsg (dVar 1) (dgTup 2 (dgCons (dName 2) (dgCons (dName 3) dgNil))))
 (sRet (dN minD (aCons (d2 ixD (d1 (fldD c.Pool "caps") (dVar 0)) (dVar 2)) (aCons (d2 ixD (d1 (fldD c.Pool "caps") (dVar 0)) (dVar 3)) aNil)))))
def g_pair_room (c : Cs) : PF := runG 2 (t_pair_room c)
def t_pairs_with_room (c : Cs) : SF :=
 (sSeq (sAsg (dLc (dItems (dVar 1)) (dName 3) (tDt blD (d2 gtD (d2 ixD (d1 (fldD c.Pool "caps") (dVar 0)) (dVar 3)) (dC (.int 0)))) (dVar 3) [3]) (dName 2))
 (sRetO (dLc2 (dEnum (aCons (dVar 2) aNil)) (dgTup 2 (dgCons (dName 4) (dgCons (dName 5) dgNil))) dYes (dItems (dSl (dVar 2) (oSome (d2 addD (dVar 4) (dC (.int 1)))) oNone)) (dName 6) dYes (dN mkTup (aCons (dVar 5) (aCons (dVar 6) aNil))) [4, 5, 6] [6])))
def g_pairs_with_room (c : Cs) : PF := runG 5 (t_pairs_with_room c)
def t_held_pairs (c : Cs) : SF :=
 (sRetO (dCallO 2 (g_pairs_with_room c) (aCons (dVar 0) (aCons (d2 ixD (d1 (fldD c.Pool "holders") (dVar 0)) (dVar 1)) aNil))))
def g_held_pairs (c : Cs) : PF := runG 0 (t_held_pairs c)
def t_law_cell : SF :=
 (sSeq (sIf (tDt blD (d2 ltD (dVar 1) (dN lenD (aCons (dVar 0) aNil))))
 (sRet (d2 ixD (dVar 0) (dVar 1)))
 sNext)
 (sRet (dC (.int 0))))
def g_law_cell : PF := runG 0 (t_law_cell)
def t_law_draws : SF :=
 (sSeq (sAsg (dN absD (aCons (dN intD (aCons (dVar 0) aNil)) aNil)) (dName 2))
 (sSeq (sAsg (d2 geD (dVar 2) (d2 powD (dC (.int 10)) (dC (.int 18)))) (dName 3))
 (sSeq (sAsgO (dN mkLst aNil) 4)
 (sSeq (sFor (dRng1 (aCons (dN lenD (aCons (dVar 1) aNil)) aNil)) (dName 5)
 (sSeq (sAsg (d2 ixD (dVar 1) (dVar 5)) (dName 6))
 (sIf (dAndT (tDt truD (dVar 3)) (tDt blD (d2 gtD (dVar 2) (dC (.int 0)))))
 (sSeq (sApp 4 (d2 modD (dN intD (aCons (dVar 2) aNil)) (dVar 6)))
 (sAsg (d2 fdivD (dVar 2) (dVar 6)) (dName 2)))
 (sSeq (sAsg (d2 modD (dN intD (aCons (d2 addD (d2 addD (dN absD (aCons (dN intD (aCons (dVar 0) aNil)) aNil)) (d2 mulD (dC (.int 7919)) (dVar 5))) (dC (.int 13))) aNil)) (dC (.int 2147483647))) (dName 7))
 (sSeq (sAsg (d2 modD (dN intD (aCons (d2 mulD (dVar 7) (d2 addD (dVar 7) (dC (.int 48271)))) aNil)) (dC (.int 2147483629))) (dName 7))
 (sSeq (sAsg (d2 modD (dN intD (aCons (d2 addD (d2 mulD (dVar 7) (d2 addD (dVar 7) (dC (.int 69621)))) (d2 mulD (dC (.int 31)) (dVar 5))) aNil)) (dC (.int 2147483647))) (dName 7))
 (sApp 4 (d2 modD (dN intD (aCons (d2 fdivD (dVar 7) (dC (.int 9))) aNil)) (dVar 6)))))))))
 (sRetV 4)))))
def g_law_draws : PF := runG 6 (t_law_draws)
def t_law_bits : SF :=
 (sRetO (dLc (dRng1 (aCons (dVar 1) aNil)) (dName 2) (tDt blD (d2 eqD (d2 modD (dN intD (aCons (d2 fdivD (dVar 0) (d2 ixD (dN mkTup (aCons (dC (.int 1)) (aCons (dC (.int 2)) (aCons (dC (.int 4)) (aCons (dC (.int 8)) (aCons (dC (.int 16)) (aCons (dC (.int 32)) (aCons (dC (.int 64)) aNil)))))))) (dVar 2))) aNil)) (dC (.int 2))) (dC (.int 1)))) (dVar 2) [2]))
def g_law_bits : PF := runG 1 (t_law_bits)
def t_law_pairs : SF :=
 (sSeq (sAsgO (dN mkLst aNil) 1)
 (sSeq (sFor (dRng1 (aCons (dVar 0) aNil)) (dName 2)
 (sFor (dRng2 (aCons (d2 addD (dVar 2) (dC (.int 1))) (aCons (dVar 0) aNil))) (dName 3)
 (sApp 1 (dN mkTup (aCons (dVar 2) (aCons (dVar 3) aNil))))))
 (sRetV 1)))
def g_law_pairs : PF := runG 3 (t_law_pairs)
def t_law_pool : SF :=
 (sSeq (sAsg (dCall 2 (g_law_draws) (aCons (dVar 0) (aCons (d2 addD (d2 addD (d2 addD (dN mkLst (aCons (dC (.int 5)) (aCons (d2 addD (dVar 1) (dC (.int 1))) (aCons (dC (.int 5)) aNil)))) (d2 mulD (dN mkLst (aCons (dC (.int 6)) aNil)) (dC (.int 5)))) (d2 mulD (dN mkLst (aCons (dC (.int 32)) aNil)) (dC (.int 8)))) (d2 mulD (dN mkLst (aCons (dC (.int 10)) aNil)) (dC (.int 8)))) aNil))) (dName 2))
 (sSeq (sAsg (d2 addD (d2 ixD (dVar 2) (dC (.int 0))) (dC (.int 1))) (dName 3))
 (sSeq (sAsg (dLc (dRng1 (aCons (dVar 3) aNil)) (dName 10) dYes (d2 ixD (dN mkTup (aCons (dC (.int 0)) (aCons (dC (.int 1)) (aCons (dC (.int 1)) (aCons (dC (.int 2)) (aCons (dC (.int 3)) (aCons (d2 addD (d2 powD (dC (.int 10)) (dC (.int 12))) (dVar 10)) aNil))))))) (d2 ixD (dVar 2) (d2 addD (dC (.int 3)) (dVar 10)))) [10]) (dName 4))
 (sSeq (sAsg (dCall 1 (g_law_pairs) (aCons (dVar 3) aNil)) (dName 5))
 (sSeq (sAsgO (dN mkLst aNil) 6)
 (sSeq (sFor (dRng1 (aCons (d2 ixD (dVar 2) (dC (.int 1))) aNil)) (dName 7)
 (sSeq (sAsg (dCall 2 (g_law_bits) (aCons (d2 ixD (dVar 2) (d2 addD (dC (.int 8)) (dVar 7))) (aCons (dVar 3) aNil))) (dName 8))
 (sSeq (sIf (dAndT (tDt blD (d2 eqD (d2 ixD (dVar 2) (dC (.int 2))) (dC (.int 1)))) (tDt blD (d2 gtD (dN lenD (aCons (dVar 5) aNil)) (dC (.int 0)))))
 (sSeq (sAsg (d2 ixD (dVar 5) (d2 modD (dN intD (aCons (d2 ixD (dVar 2) (d2 addD (dC (.int 16)) (dVar 7))) aNil)) (dN lenD (aCons (dVar 5) aNil)))) (dName 9))
 (sAsg (dLc (dRng1 (aCons (dVar 3) aNil)) (dName 10) (dOrT (tDt blD (d2 inD (dVar 10) (dVar 8))) (tDt blD (d2 inD (dVar 10) (dVar 9)))) (dVar 10) [10]) (dName 8)))
 sNext)
 (sSeq (sIf (dAndT (tDt blD (d2 eqD (d2 ixD (dVar 2) (dC (.int 2))) (dC (.int 2)))) (tDt blD (d2 gtD (dN lenD (aCons (dVar 5) aNil)) (dC (.int 0)))))
 (sAsg (dN listD (aCons (d2 ixD (dVar 5) (d2 modD (dN intD (aCons (d2 ixD (dVar 2) (d2 addD (dC (.int 16)) (dVar 7))) aNil)) (dN lenD (aCons (dVar 5) aNil)))) aNil)) (dName 8))
 sNext)
 (sSeq (sIf (tDt blD (d2 eqD (d2 ixD (dVar 2) (dC (.int 2))) (dC (.int 3))))
 (sAsg (dCall 2 (g_law_bits) (aCons (d2 ixD (dVar 2) (d2 addD (dC (.int 8)) (d2 fdivD (dVar 7) (dC (.int 4))))) (aCons (dVar 3) aNil))) (dName 8))
 sNext)
 (sApp 6 (dVar 8)))))))
 (sSeq (sIf (tDt blD (d2 eqD (d2 ixD (dVar 2) (dC (.int 2))) (dC (.int 4))))
 (sAsg (dLc (dRng1 (aCons (dVar 3) aNil)) (dName 10) dYes (d2 ixD (dVar 4) (dC (.int 0))) [10]) (dName 4))
 sNext)
 (sFrz [6] (sRet (dN mkTup (aCons (dVar 4) (aCons (dVar 6) aNil))))))))))))
def g_law_pool : PF := runG 9 (t_law_pool)
def t_law_is_integer : SF :=
 (sRet (dAndV (dN isiD (aCons (dVar 0) (aCons (dC (.ty "int")) aNil))) (d1 notD (dN isiD (aCons (dVar 0) (aCons (dC (.ty "bool")) aNil))))))
def g_law_is_integer : PF := runG 0 (t_law_is_integer)
local macro_rules | `(tactic| walk_at "zs") => `(tactic| simp only [mul_lz, List.flatten_cons, List.flatten_nil, Int.reduceToNat, add_ll, pow10_12, pow10_18, pow10_39, pow10_41, pow10_59, pow10_60, mkLst_some, mkTup_some, List.length_cons, List.length_nil, Nat.zero_le, Nat.reduceAdd, Nat.reduceLeDiff, call1, callO1, call2, callO2, call3, callO3, call4, callO4, call5, callO5, call6, callO6, ap1_some, ap2_some, apN_some, apC_some, d1_a, d2_a, dN_a, aNil_a, aCons_a, dC_a, dVar_z, dVar_s, tDt_a, apAnd_t, apAnd_f, apOr_t, apOr_f, dAndT_a, dOrT_a, apNot_some, dNotT_a, apAndV_t, apAndV_f, dAndV_a, apOrV_t, apOrV_f, dOrV_a, apIf_t, apIf_f, dIf_a, apCh_t, apCh_f, apChain_some, dChain_a, apSeq_nx, apSeq_rt, apSeq_ct, apSeq_bk, sSeq_a, apIfS_t, apIfS_f, sIf_a, sNext_a, sCont_a, sBreak_a, apRet_some, sRet_a, apRetO_some, sRetO_a, sRetN_a, getO_z, getO_s, apRetV_some, sRetV_a, ltB_z, ltB_s, okSlot_s, apAsg_some, sAsg_a, dName_ok, apG_some, dgCons_a, dgNil_a, apAsgO_some, sAsgO_a, sApp_a, sSetI_a, apFor_some, sFor_a, dItems_a, dRng1_a, dRng2_a, apEn_some, dEnum_a, sFrz_a, frzs_nil, frzs_cons, frzI_o, frzI_v, frzI_n, frzI_s, frz1_s, frzAll_nil, frzAll_o, frzAll_v, frzAll_n, peekT_a, apPk_int, apPk_bl, apPk_str, apPk_non, peekF_a, dCall_a, toO_o, dCallO_a, dMake_a, Wd_v, Wd_o, dSl_a, apSl_some, oNone_a, oSome_a, apO_some, add_ii, sub_ii, lt_ii, le_ii, gt_ii, ge_ii, eq_ii, ne_ii, neg_i, not_b, bl_b, tru_b, tru_i, tru_l, tru_t, tru_n, len_l, len_t, len_scr, abs_i, int_i, list_l, list_t, tuple_l, tuple_t, min_ii, max_ii, rev_l, items_l, items_t, iL_len, run_a, outW_rt, outW_nx, List.map_cons, List.map_nil, List.replicate, List.append_nil, List.cons_append, List.nil_append, List.set_cons_zero, List.set_cons_succ, Option.map_some])
/-! ### draws -/
theorem draws_spec (c : Int) (sizes : List Int) (hs : ∀ s ∈ sizes, 0 < s ∧ s < 2 ^ 60) (hl : sizes.length ≤ 1000) : Gets (g_law_draws [.int c, .lst (iL sizes)]) fun w => ∃ ds, w = .o (.lst (iL ds)) ∧ Below ds sizes := by
  unfold g_law_draws t_law_draws
  walk_at "zs"
  rw [apR1_some (by omega)]
  walk_at "zs"
  refine rng_then (C := fun o => Gets (outW o) _) (fun i g => ∃ (left : Int) (acc : List Int) (dg : Bool) (k sz mx : Option Wd), g = [some (.v (.int c)), some (.v (.lst (iL sizes))), some (.v (.int left)), some (.v (.bl dg)), some (.o (.lst (iL acc))), k, sz, mx] ∧ acc.length = i ∧
    ∀ (j : Nat) (d s : Int), acc[j]? = some d → sizes[j]? = some s → 0 ≤ d ∧ d < s) ?_ ?_ ?_ ?_
  · exact ⟨_, [], _, _, _, _, rfl, rfl, fun j d s h => by simp at h⟩
  · rintro i g ⟨left, acc, dg, k, sz, mx, rfl, _⟩
    rfl
  · rintro i g hi ⟨left, acc, dg, k, sz, mx, rfl, hlen, hb⟩
    have hsz : sizes[i]? = some sizes[i] := List.getElem?_eq_getElem hi
    obtain ⟨p1, p2⟩ := hs sizes[i] (List.getElem_mem hi)
    have fin : ∀ (x : Int), 0 ≤ x ∧ x < sizes[i] → ∀ (j : Nat) (d s : Int), (acc ++ [x])[j]? = some d → sizes[j]? = some s → 0 ≤ d ∧ d < s := fun x hx j d s h1 h2 => by
      by_cases hj : j < acc.length
      · rw [List.getElem?_append_left hj] at h1
        exact hb j d s h1 h2
      · rw [List.getElem?_append_right (by omega)] at h1
        have e : j = acc.length := by
          by_cases e : j = acc.length
          · exact e
          · rw [List.getElem?_eq_none (by simp; omega)] at h1; cases h1
        subst e
        simp at h1
        rw [hlen, hsz] at h2
        cases h2
        rw [← h1]
        exact hx
    have modb : ∀ x : Int, 0 ≤ x % sizes[i] ∧ x % sizes[i] < sizes[i] := fun x => ⟨Int.emod_nonneg _ (by omega), Int.emod_lt_of_pos _ p1⟩
    have mb : ∀ x m : Int, 0 < m → m < 2 ^ 31 → 0 ≤ x % m ∧ x % m < 2 ^ 31 := fun x m h h' => ⟨Int.emod_nonneg _ (by omega), Int.lt_trans (Int.emod_lt_of_pos _ h) h'⟩
    walk_at "zs"
    rw [ix_i hsz]
    walk_at "zs"
    have step2 : StepTo ((sSeq (sAsg (d2 modD (dN intD (aCons (d2 addD (d2 addD (dN absD (aCons (dN intD (aCons (dVar 0) aNil)) aNil)) (d2 mulD (dC (.int 7919)) (dVar 5))) (dC (.int 13))) aNil)) (dC (.int 2147483647))) (dName 7))
 (sSeq (sAsg (d2 modD (dN intD (aCons (d2 mulD (dVar 7) (d2 addD (dVar 7) (dC (.int 48271)))) aNil)) (dC (.int 2147483629))) (dName 7))
 (sSeq (sAsg (d2 modD (dN intD (aCons (d2 addD (d2 mulD (dVar 7) (d2 addD (dVar 7) (dC (.int 69621)))) (d2 mulD (dC (.int 31)) (dVar 5))) aNil)) (dC (.int 2147483647))) (dName 7))
 (sApp 4 (d2 modD (dN intD (aCons (d2 fdivD (dVar 7) (dC (.int 9))) aNil)) (dVar 6)))))) [some (.v (.int c)), some (.v (.lst (iL sizes))), some (.v (.int left)), some (.v (.bl dg)), some (.o (.lst (iL acc))), some (.v (.int (i : Int))), some (.v (.int sizes[i])), mx]) (fun g => ∃ (left : Int) (acc : List Int) (dg : Bool) (k sz mx : Option Wd), g = [some (.v (.int c)), some (.v (.lst (iL sizes))), some (.v (.int left)), some (.v (.bl dg)), some (.o (.lst (iL acc))), k, sz, mx] ∧ acc.length = i + 1 ∧
    ∀ (j : Nat) (d s : Int), acc[j]? = some d → sizes[j]? = some s → 0 ≤ d ∧ d < s) := by
      walk_at "zs"
      rw [mul_small (by decide) (by omega)]
      walk_at "zs"
      rw [mod_ii (by decide)]
      walk_at "zs"
      have b1 := mb ((if c < 0 then -c else c) + 7919 * (i : Int) + 13) 2147483647 (by decide) (by decide)
      generalize ((if c < 0 then -c else c) + 7919 * (i : Int) + 13) % 2147483647 = m1 at b1 ⊢
      rw [mul_small (by omega) (by omega)]
      walk_at "zs"
      rw [mod_ii (by decide)]
      walk_at "zs"
      have b2 := mb (m1 * (m1 + 48271)) 2147483629 (by decide) (by decide)
      generalize (m1 * (m1 + 48271)) % 2147483629 = m2 at b2 ⊢
      rw [mul_small (by omega) (by omega), mul_small (by decide) (by omega)]
      walk_at "zs"
      rw [mod_ii (by decide)]
      walk_at "zs"
      rw [fdiv_ii (by decide) (by decide)]
      walk_at "zs"
      rw [mod_ii p1, apApp_some (by rw [iL_len]; omega), iL_one, iL_app]
      walk_at "zs"
      exact step_nx ⟨left, _, dg, _, _, _, rfl, by simp [hlen], fin _ (modb _)⟩
    cases dg with
    | false =>
      walk_at "zs"
      exact step2
    | true =>
      walk_at "zs"
      by_cases h0 : 0 < left
      · rw [decide_eq_true h0]
        walk_at "zs"
        rw [mod_ii p1, apApp_some (by rw [iL_len]; omega), iL_one, iL_app]
        walk_at "zs"
        rw [fdiv_ii p1 (by omega)]
        walk_at "zs"
        exact step_nx ⟨_, _, true, _, _, _, rfl, by simp [hlen], fin _ (modb _)⟩
      · rw [decide_eq_false h0]
        walk_at "zs"
        exact step2
  · rintro g' ⟨left, acc, dg, k, sz, mx, rfl, hlen, hb⟩
    walk_at "zs"
    exact gets_some ⟨acc, rfl, hlen, hb⟩
/-! ### bits, pairs -/
theorem bits_spec (m : Int) (n : Nat) (hn : n ≤ 7) : Gets (g_law_bits [.int m, .int (n : Int)]) fun w => ∃ hs, w = .o (.lst (iL hs)) ∧ Asc n hs := by
  unfold g_law_bits t_law_bits
  walk_at "zs"
  obtain ⟨hs, h1, h2⟩ := lc_rng (n := n) (tg := dName 2) (tt := (tDt blD (d2 eqD (d2 modD (dN intD (aCons (d2 fdivD (dVar 0) (d2 ixD (dN mkTup (aCons (dC (.int 1)) (aCons (dC (.int 2)) (aCons (dC (.int 4)) (aCons (dC (.int 8)) (aCons (dC (.int 16)) (aCons (dC (.int 32)) (aCons (dC (.int 64)) aNil)))))))) (dVar 2))) aNil)) (dC (.int 2))) (dC (.int 1))))) (te := dVar 2)
    (g := [some (.v (.int m)), some (.v (.int (n : Int))), none]) fun i hi => by
    refine ⟨_, (m / [1, 2, 4, 8, 16, 32, 64].getD i 1 % 2 == 1), dName_ok rfl, ?_, rfl⟩
    walk_at "zs"
    have hi7 : i < 7 := by omega
    have key : ∃ p : Int, ixD (.tup [.int 1, .int 2, .int 4, .int 8, .int 16, .int 32, .int 64]) (.int (i : Int)) = some (.int p) ∧ p = [1, 2, 4, 8, 16, 32, 64].getD i 1 ∧ 0 < p ∧ p ≤ 64 := by
      match i, hi7 with
      | 0, _ => exact ⟨1, rfl, rfl, by decide, by decide⟩
      | 1, _ => exact ⟨2, rfl, rfl, by decide, by decide⟩
      | 2, _ => exact ⟨4, rfl, rfl, by decide, by decide⟩
      | 3, _ => exact ⟨8, rfl, rfl, by decide, by decide⟩
      | 4, _ => exact ⟨16, rfl, rfl, by decide, by decide⟩
      | 5, _ => exact ⟨32, rfl, rfl, by decide, by decide⟩
      | 6, _ => exact ⟨64, rfl, rfl, by decide, by decide⟩
    obtain ⟨p, e1, e2, e3, e4⟩ := key
    rw [e1]
    walk_at "zs"
    rw [fdiv_ii e3 (by have : p.natAbs ≤ 64 := by omega
                       exact Nat.lt_of_le_of_lt this (by decide))]
    walk_at "zs"
    rw [mod_ii (by decide)]
    walk_at "zs"
    rw [e2]
  rw [dLc_eq (ds := rngL 0 n) rfl (by walk_at "zs"; exact apR1_some (by omega)) (by rw [rng_len]; omega) h1]
  walk_at "zs"
  exact gets_some ⟨hs, rfl, h2⟩
theorem pairs_spec (n : Nat) (hn : n ≤ 200) : g_law_pairs [.int (n : Int)] = some (.o (.lst (pairsL n))) := by
  unfold g_law_pairs t_law_pairs
  walk_at "zs"
  rw [apR1_some (by omega)]
  walk_at "zs"
  refine rng_then (C := fun o => outW o = _) (fun i g => ∃ (lo hi : Option Wd), g = [some (.v (.int (n : Int))), some (.o (.lst ((List.range i).flatMap (rowP n)))), lo, hi]) ?_ ?_ ?_ ?_
  · exact ⟨_, _, rfl⟩
  · rintro i g ⟨lo, hi, rfl⟩
    rfl
  · rintro i g hin ⟨lo, hi, rfl⟩
    walk_at "zs"
    rw [apR2_some (by omega), apFor_some]
    have e0 : (((n : Int) - ((i : Int) + 1)).toNat) = n - (i + 1) := by omega
    rw [e0]
    obtain ⟨g', e, ⟨lo', hi', rfl⟩⟩ := loop_by (f := dName 3) (s := sApp 1 (dN mkTup (aCons (dVar 2) (aCons (dVar 3) aNil)))) (ds := rngL ((i : Int) + 1) (n - (i + 1)))
      (fun j g => ∃ (hi : Option Wd), g = [some (.v (.int (n : Int))), some (.o (.lst ((List.range i).flatMap (rowP n) ++ (rowP n i).take j))), some (.v (.int (i : Int))), hi]) (g := [some (.v (.int (n : Int))), some (.o (.lst ((List.range i).flatMap (rowP n)))), some (.v (.int (i : Int))), hi]) ⟨hi, by rw [List.take_zero, List.append_nil]⟩ fun j d g hd ⟨hi, hg⟩ => by
        subst hg
        obtain ⟨hj, rfl⟩ := rng_get hd
        refine ⟨_, dName_ok rfl, ?_⟩
        walk_at "zs"
        have hl := flat_len n i
        have ht : ((rowP n i).take j).length ≤ n := by rw [List.length_take, rowP_len]; omega
        have hb : i * n ≤ 200 * 200 := Nat.mul_le_mul (by omega) hn
        rw [apApp_some (by rw [List.length_append]; omega)]
        walk_at "zs"
        refine step_nx ⟨some (.v (.int ((i : Int) + 1 + (j : Int)))), ?_⟩
        rw [List.take_add_one, List.append_assoc]
        have e2 : (rowP n i)[j]? = some (pr (i : Int) (((i + 1 + j : Nat)) : Int)) := by
          unfold rowP
          rw [List.getElem?_map, List.getElem?_range hj] <;> rfl
        rw [e2]
        have e3 : (((i + 1 + j : Nat)) : Int) = (i : Int) + 1 + (j : Int) := by omega
        rw [e3]
        rfl
    rw [e]
    refine step_nx ⟨some (.v (.int (i : Int))), lo', ?_⟩
    rw [rng_len, List.take_of_length_le (by rw [rowP_len]; exact Nat.le_refl _), List.range_succ, List.flatMap_append]
    simp
  · rintro g' ⟨lo, hi, rfl⟩
    walk_at "zs"
    rfl
/-! ### pools -/
theorem pool_sizes (m : Int) : ap2 addD (ap2 addD (ap2 addD (some (.lst [.int 5, .int m, .int 5])) (mulD (.lst [.int 6]) (.int 5))) (mulD (.lst [.int 32]) (.int 8))) (mulD (.lst [.int 10]) (.int 8)) = some (.lst (iL [5, m, 5, 6, 6, 6, 6, 6, 32, 32, 32, 32, 32, 32, 32, 32, 10, 10, 10, 10, 10, 10, 10, 10])) := rfl
theorem rowsL_snoc {hs : List (List Int)} {h : List Int} : rowsL hs ++ [.lst (iL h)] = rowsL (hs ++ [h]) := by unfold rowsL; rw [List.map_append] <;> rfl
theorem pool_spec5 (c : Int) (most : Nat) (hm : most ≤ 8) : Gets (g_law_pool [.int c, .int (most : Int)]) fun w => ∃ caps hs, w = .v (.tup [.lst (iL caps), .lst (rowsL hs)]) ∧ PoolOk caps hs most ∧ caps.length ≤ 5 ∧ ∀ x ∈ caps, x < 10 ^ 13 := by
  unfold g_law_pool t_law_pool
  walk_at "zs"
  rw [pool_sizes]
  obtain ⟨w, e, ds, rfl, hb⟩ := draws_spec c [5, (most : Int) + 1, 5, 6, 6, 6, 6, 6, 32, 32, 32, 32, 32, 32, 32, 32, 10, 10, 10, 10, 10, 10, 10, 10] (by
    intro s hs
    simp only [List.mem_cons, List.not_mem_nil, or_false] at hs
    omega) (show (24 : Nat) ≤ 1000 by decide)
  walk_at "zs"
  rw [e]
  walk_at "zs"
  obtain ⟨d0, i0, b0⟩ := hb.ix (m := 0) (k := 0) rfl rfl
  obtain ⟨d1, i1, b1⟩ := hb.ix (m := 1) (k := 1) rfl rfl
  obtain ⟨d2', i2, b2⟩ := hb.ix (m := 2) (k := 2) rfl rfl
  rw [i0]
  walk_at "zs"
  obtain ⟨n, hn⟩ : ∃ n : Nat, d0 + 1 = (n : Int) := ⟨(d0 + 1).toNat, by omega⟩
  rw [hn]
  obtain ⟨caps, hc1, hc2, hc3⟩ := lc_all (tg := dName 10) (tt := dYes) (te := (d2 ixD (dN mkTup (aCons (dC (.int 0)) (aCons (dC (.int 1)) (aCons (dC (.int 1)) (aCons (dC (.int 2)) (aCons (dC (.int 3)) (aCons (d2 addD (d2 powD (dC (.int 10)) (dC (.int 12))) (dVar 10)) aNil))))))) (d2 ixD (dVar 2) (d2 addD (dC (.int 3)) (dVar 10)))))
    (g := [some (.v (.int c)), some (.v (.int (most : Int))), some (.v (.lst (iL ds))), some (.v (.int (n : Int))), none, none, none, none, none, none, none]) (fun x => 0 ≤ x ∧ x < 10 ^ 13) (rngL 0 n) fun d hd => by
    obtain ⟨i, hi, rfl⟩ := rng_mem hd
    obtain ⟨dk, ik, bk⟩ := hb.ix (m := 3 + i) (k := 3 + (0 + (i : Int))) (s := 6) (by omega) (by
      have : i < 5 := by omega
      match i, this with
      | 0, _ => rfl
      | 1, _ => rfl
      | 2, _ => rfl
      | 3, _ => rfl
      | 4, _ => rfl)
    obtain ⟨x, hx, ix⟩ := ix_tup_in (ds := [0, 1, 1, 2, 3, 1000000000000 + (0 + (i : Int))]) (k := dk) (by omega) (by simp; omega)
    refine ⟨_, x, dName_ok rfl, rfl, ?_, ?_⟩
    · walk_at "zs"
      rw [ik]
      walk_at "zs"
      exact ix
    · simp only [List.mem_cons, List.not_mem_nil, or_false] at hx
      omega
  rw [dLc_eq (ds := rngL 0 n) rfl (by walk_at "zs"; exact apR1_some (by omega)) (by rw [rng_len]; omega) hc1]
  walk_at "zs"
  rw [pairs_spec n (by omega)]
  walk_at "zs"
  rw [i1]
  walk_at "zs"
  obtain ⟨m, hm1⟩ : ∃ m : Nat, d1 = (m : Int) := ⟨d1.toNat, by omega⟩
  rw [hm1, apR1_some (by omega)]
  walk_at "zs"
  rw [rng_len] at hc2
  have hpl : (pairsL n).length ≤ n * n := flat_len n n
  refine rng_then (C := fun o => Gets (outW o) _) (fun i g => ∃ (hs : List (List Int)) (k7 k8 k9 : Option Wd) (k10 : Option D), g = [some (.v (.int c)), some (.v (.int (most : Int))), some (.v (.lst (iL ds))), some (.v (.int (n : Int))), some (.v (.lst (iL caps))), some (.v (.lst (pairsL n))), some (.o (.lst (rowsL hs))), k7, k8, k9, k10.map Wd.v] ∧ hs.length = i ∧ ∀ h ∈ hs, Asc n h) ?_ ?_ ?_ ?_
  · exact ⟨[], _, _, _, none, rfl, rfl, fun h z => by cases z⟩
  · rintro i g ⟨hs, k7, k8, k9, k10, rfl, _⟩
    rfl
  · rintro i g hi ⟨hs, k7, k8, k9, k10, rfl, hlen, hasc⟩
    have him : i < 8 := by omega
    obtain ⟨d8, i8, b8⟩ := hb.ix (m := 8 + i) (k := 8 + (i : Int)) (s := 32) (by omega) (by
      match i, him with
      | 0, _ => rfl
      | 1, _ => rfl
      | 2, _ => rfl
      | 3, _ => rfl
      | 4, _ => rfl
      | 5, _ => rfl
      | 6, _ => rfl
      | 7, _ => rfl)
    obtain ⟨d16, i16, b16⟩ := hb.ix (m := 16 + i) (k := 16 + (i : Int)) (s := 10) (by omega) (by
      match i, him with
      | 0, _ => rfl
      | 1, _ => rfl
      | 2, _ => rfl
      | 3, _ => rfl
      | 4, _ => rfl
      | 5, _ => rfl
      | 6, _ => rfl
      | 7, _ => rfl)
    obtain ⟨d84, i84, b84⟩ := hb.ix (m := 8 + i / 4) (k := 8 + (i : Int) / 4) (s := 32) (by omega) (by
      match i, him with
      | 0, _ => rfl
      | 1, _ => rfl
      | 2, _ => rfl
      | 3, _ => rfl
      | 4, _ => rfl
      | 5, _ => rfl
      | 6, _ => rfl
      | 7, _ => rfl)
    walk_at "zs"
    rw [i8]
    walk_at "zs"
    obtain ⟨w, e8, h8, rfl, a8⟩ := bits_spec d8 n (by omega)
    rw [e8]
    walk_at "zs"
    have pk : (pairsL n).length ≠ 0 → ∃ a b : Nat, ixD (.lst (pairsL n)) (.int (d16 % ((pairsL n).length : Int))) = some (.tup [.int (a : Int), .int (b : Int)]) ∧ a < b ∧ b < n := fun h0 => by
      have hp : (0 : Int) < ((pairsL n).length : Int) := by omega
      obtain ⟨d, hd, hi⟩ := ix_mem (ds := pairsL n) (k := d16 % ((pairsL n).length : Int)) (Int.emod_nonneg _ (by omega)) (Int.emod_lt_of_pos _ hp)
      obtain ⟨a, b, rfl, h1, h2⟩ := pairsL_mem hd
      exact ⟨a, b, hi, h1, h2⟩
    have hrl : (rowsL hs).length < 100000 := by unfold rowsL; rw [List.length_map]; omega
    let Ja : Gm → Prop := fun g => ∃ (h' : List Int) (k9 : Option Wd) (k10 : Option D), g = [some (.v (.int c)), some (.v (.int (most : Int))), some (.v (.lst (iL ds))), some (.v (.int (n : Int))), some (.v (.lst (iL caps))), some (.v (.lst (pairsL n))), some (.o (.lst (rowsL hs))), some (.v (.int (i : Int))), some (.v (.lst (iL h'))), k9, k10.map Wd.v] ∧ Asc n h'
    have mk : ∀ (h' : List Int) (k9 : Option Wd) (k10 : Option D), Asc n h' → ∃ g, some (Out.nx [some (.v (.int c)), some (.v (.int (most : Int))), some (.v (.lst (iL ds))), some (.v (.int (n : Int))), some (.v (.lst (iL caps))), some (.v (.lst (pairsL n))), some (.o (.lst (rowsL hs))), some (.v (.int (i : Int))), some (.v (.lst (iL h'))), k9, k10.map Wd.v]) = some (.nx g) ∧ Ja g := fun h' k9 k10 ha => ⟨_, rfl, h', k9, k10, rfl, ha⟩
    refine seq_then (C := fun o => StepTo o _) Ja ?_ ?_
    · rw [i2]
      walk_at "zs"
      cases (d2' == 1)
      · walk_at "zs"
        exact mk _ _ _ a8
      · walk_at "zs"
        by_cases h0 : (pairsL n).length = 0
        · rw [decide_eq_false (by omega)]
          walk_at "zs"
          exact mk _ _ _ a8
        · rw [decide_eq_true (by omega)]
          walk_at "zs"
          rw [i16]
          walk_at "zs"
          rw [mod_ii (by omega)]
          obtain ⟨a, b, hpi, hab, hbn⟩ := pk h0
          walk_at "zs"
          rw [hpi]
          walk_at "zs"
          obtain ⟨ns, hn1, hn2⟩ := lc_rng (n := n) (tg := dName 10) (tt := dOrT (tDt blD (d2 inD (dVar 10) (dVar 8))) (tDt blD (d2 inD (dVar 10) (dVar 9)))) (te := dVar 10)
            (g := [some (.v (.int c)), some (.v (.int (most : Int))), some (.v (.lst (iL ds))), some (.v (.int (n : Int))), some (.v (.lst (iL caps))), some (.v (.lst (pairsL n))), some (.o (.lst (rowsL hs))), some (.v (.int (i : Int))), some (.v (.lst (iL h8))), some (.v (.tup [.int (a : Int), .int (b : Int)])), none]) fun j hj => by
            refine ⟨_, (h8.contains (j : Int) || [(a : Int), (b : Int)].contains (j : Int)), dName_ok rfl, ?_, rfl⟩
            walk_at "zs"
            rw [in_l]
            cases h8.contains (j : Int)
            · walk_at "zs"
              rw [show inD (.int (j : Int)) (.tup [.int (a : Int), .int (b : Int)]) = _ from in_pr]
              walk_at "zs"
              rw [Bool.false_or]
            · walk_at "zs"
              rfl
          rw [dLc_eq (ds := rngL 0 n) (by cases k10 <;> rfl) (by walk_at "zs"; exact apR1_some (by omega)) (by rw [rng_len]; omega) hn1]
          walk_at "zs"
          exact mk _ _ _ hn2
    · rintro g ⟨h', k9, k10, rfl, ha'⟩
      walk_at "zs"
      refine seq_then (C := fun o => StepTo o _) Ja ?_ ?_
      · rw [i2]
        walk_at "zs"
        cases (d2' == 2)
        · walk_at "zs"
          exact mk _ _ _ ha'
        · walk_at "zs"
          by_cases h0 : (pairsL n).length = 0
          · rw [decide_eq_false (by omega)]
            walk_at "zs"
            exact mk _ _ _ ha'
          · rw [decide_eq_true (by omega)]
            walk_at "zs"
            rw [i16]
            walk_at "zs"
            rw [mod_ii (by omega)]
            obtain ⟨a, b, hpi, hab, hbn⟩ := pk h0
            walk_at "zs"
            rw [hpi]
            walk_at "zs"
            refine mk [(a : Int), (b : Int)] _ _ ⟨by simp; omega, ?_⟩
            intro h hh
            simp only [List.mem_cons, List.not_mem_nil, or_false] at hh
            omega
      · rintro g ⟨h', k9, k10, rfl, ha'⟩
        walk_at "zs"
        refine seq_then (C := fun o => StepTo o _) Ja ?_ ?_
        · rw [i2]
          walk_at "zs"
          cases (d2' == 3)
          · walk_at "zs"
            exact mk _ _ _ ha'
          · walk_at "zs"
            rw [fdiv_ii (by decide) (by omega)]
            walk_at "zs"
            rw [i84]
            walk_at "zs"
            obtain ⟨w, e84, h84, rfl, a84⟩ := bits_spec d84 n (by omega)
            rw [e84]
            walk_at "zs"
            exact mk _ _ _ a84
        · rintro g ⟨h', k9, k10, rfl, ha'⟩
          walk_at "zs"
          rw [apApp_some hrl, rowsL_snoc]
          walk_at "zs"
          refine step_nx ⟨hs ++ [h'], _, _, _, _, rfl, ?_, fun h hh => ?_⟩
          · rw [List.length_append, hlen]
            rfl
          · rcases List.mem_append.mp hh with z | z
            · exact hasc h z
            · rw [List.mem_singleton.mp z]; exact ha'
  · rintro g' ⟨hs, k7, k8, k9, k10, rfl, hlen, hasc⟩
    walk_at "zs"
    have ok : ∀ cs : List Int, cs.length = n → (∀ x ∈ cs, 0 ≤ x ∧ x < 10 ^ 13) → PoolOk cs hs most ∧ cs.length ≤ 5 ∧ ∀ x ∈ cs, x < 10 ^ 13 := fun cs h1 h2 => ⟨⟨by omega, by omega, fun x hx => ⟨(h2 x hx).1, Int.lt_trans (h2 x hx).2 (by decide)⟩, by omega, by rw [h1]; exact hasc⟩, by omega, fun x hx => (h2 x hx).2⟩
    refine seq_then (C := fun o => Gets (outW o) _) (fun g => ∃ (cs : List Int) (k7 k8 k9 : Option Wd) (k10 : Option D), g = [some (.v (.int c)), some (.v (.int (most : Int))), some (.v (.lst (iL ds))), some (.v (.int (n : Int))), some (.v (.lst (iL cs))), some (.v (.lst (pairsL n))), some (.o (.lst (rowsL hs))), k7, k8, k9, k10.map Wd.v] ∧ PoolOk cs hs most ∧ cs.length ≤ 5 ∧ ∀ x ∈ cs, x < 10 ^ 13) ?_ ?_
    · rw [i2]
      walk_at "zs"
      cases (d2' == 4)
      · walk_at "zs"
        exact ⟨_, rfl, caps, _, _, _, _, rfl, ok caps hc2 hc3⟩
      · walk_at "zs"
        obtain ⟨cs, e1, e2, e3⟩ := lc_all (tg := dName 10) (tt := dYes) (te := d2 ixD (dVar 4) (dC (.int 0)))
          (g := [some (.v (.int c)), some (.v (.int (most : Int))), some (.v (.lst (iL ds))), some (.v (.int (n : Int))), some (.v (.lst (iL caps))), some (.v (.lst (pairsL n))), some (.o (.lst (rowsL hs))), k7, k8, k9, none]) (fun x => 0 ≤ x ∧ x < 10 ^ 13) (rngL 0 n) fun d hd => by
          obtain ⟨x, hx, ix⟩ := ix_lst_in (ds := caps) (k := 0) (by omega) (by omega)
          refine ⟨_, x, dName_ok rfl, rfl, ?_, hc3 x hx⟩
          walk_at "zs"
          exact ix
        rw [dLc_eq (ds := rngL 0 n) (by cases k10 <;> rfl) (by walk_at "zs"; exact apR1_some (by omega)) (by rw [rng_len]; omega) e1]
        walk_at "zs"
        rw [rng_len] at e2
        exact ⟨_, rfl, cs, _, _, _, _, rfl, ok cs e2 e3⟩
    · rintro g ⟨cs, k7, k8, k9, k10, rfl, hp⟩
      walk_at "zs"
      exact gets_some ⟨cs, hs, rfl, hp⟩
end Zc
end

section
set_option Elab.async false
set_option linter.all false
set_option maxRecDepth 100000
set_option maxHeartbeats 2000000
/-! The pool's own class and functions, as the laws use them. -/
namespace Zc
open PySem L2 Zk
local macro_rules | `(tactic| walk_at "zs") => `(tactic| simp only [dgTup2_a, dgTup3_a, Bool.not_true, Bool.not_false, mul_lz, List.flatten_cons, List.flatten_nil, Int.reduceToNat, add_ll, pow10_12, pow10_18, pow10_39, pow10_41, pow10_59, pow10_60, mkLst_some, mkTup_some, List.length_cons, List.length_nil, Nat.zero_le, Nat.reduceAdd, Nat.reduceLeDiff, call1, callO1, call2, callO2, call3, callO3, call4, callO4, call5, callO5, call6, callO6, ap1_some, ap2_some, apN_some, apC_some, d1_a, d2_a, dN_a, aNil_a, aCons_a, dC_a, dVar_z, dVar_s, tDt_a, apAnd_t, apAnd_f, apOr_t, apOr_f, dAndT_a, dOrT_a, apNot_some, dNotT_a, apAndV_t, apAndV_f, dAndV_a, apOrV_t, apOrV_f, dOrV_a, apIf_t, apIf_f, dIf_a, apCh_t, apCh_f, apChain_some, dChain_a, apSeq_nx, apSeq_rt, apSeq_ct, apSeq_bk, sSeq_a, apIfS_t, apIfS_f, sIf_a, sNext_a, sCont_a, sBreak_a, apRet_some, sRet_a, apRetO_some, sRetO_a, sRetN_a, getO_z, getO_s, apRetV_some, sRetV_a, ltB_z, ltB_s, okSlot_s, apAsg_some, sAsg_a, dName_ok, apG_some, dgCons_a, dgNil_a, apAsgO_some, sAsgO_a, sApp_a, sSetI_a, apFor_some, sFor_a, dItems_a, dRng1_a, dRng2_a, apEn_some, apEn_tup, dEnum_a, sFrz_a, frzs_nil, frzs_cons, frzI_o, frzI_v, frzI_n, frzI_s, frz1_s, frzAll_nil, frzAll_o, frzAll_v, frzAll_n, peekT_a, apPk_int, apPk_bl, apPk_str, apPk_non, peekF_a, dCall_a, toO_o, dCallO_a, dMake_a, Wd_v, Wd_o, dSl_a, apSl_some, oNone_a, oSome_a, apO_some, add_ii, sub_ii, lt_ii, le_ii, gt_ii, ge_ii, eq_ii, ne_ii, neg_i, not_b, bl_b, tru_b, tru_i, tru_l, tru_t, tru_n, len_l, len_t, len_scr, abs_i, int_i, list_l, list_t, tuple_l, tuple_t, min_ii, max_ii, rev_l, items_l, items_t, iL_len, run_a, outW_rt, outW_nx, List.map_cons, List.map_nil, List.replicate, List.append_nil, List.cons_append, List.nil_append, List.set_cons_zero, List.set_cons_succ, Option.map_some])
/-! ### items that differ -/
theorem asInts_of (ns : List Int) : asInts (iL ns) = some ns := by
  induction ns with
  | nil => rfl
  | cons n ns ih => show (asInts (iL ns)).map (n :: ·) = _; rw [ih]; rfl
theorem asBls_of {α : Type} (xs : List α) (b : Bool) : asBls (xs.map fun _ => D.bl b) = some (xs.map fun _ => b) := by
  induction xs with
  | nil => rfl
  | cons n ns ih => show (asBls (ns.map _)).map (b :: ·) = _; rw [ih]; rfl
theorem all_true {α : Type} (xs : List α) : allD [.lst (xs.map fun _ => D.bl true)] = some (.bl true) := by
  show (asBls _).map _ = _
  rw [asBls_of]
  show some (D.bl _) = _
  congr 2
  exact List.all_eq_true.mpr fun b hb => by obtain ⟨_, _, rfl⟩ := List.mem_map.mp hb; rfl
theorem dd_nodup {xs : List Int} (h : xs.Nodup) : dd xs = xs := by
  induction xs with
  | nil => rfl
  | cons x xs ih =>
    rw [List.nodup_cons] at h
    unfold dd
    rw [if_neg h.1, ih h.2]
def Hold (n : Nat) (h : List Int) : Prop := h.Nodup ∧ ∀ k ∈ h, 0 ≤ k ∧ k < (n : Int)
theorem Asc.hold {n : Nat} {h : List Int} (a : Asc n h) : Hold n h := ⟨a.nodup, a.2⟩
theorem srt_le (h : List Int) : (srt h).Pairwise (· ≤ ·) := by
  have e := List.pairwise_mergeSort (le := fun a b : Int => decide (a ≤ b)) (fun a b c h1 h2 => by simp at h1 h2 ⊢; omega) (fun a b => by simp; omega) h
  exact e.imp fun q => of_decide_eq_true q
theorem Hold.asc {n : Nat} {h : List Int} (a : Hold n h) : Asc n (srt h) := by
  refine ⟨?_, fun k hk => a.2 k ((srt_perm h).mem_iff.mp hk)⟩
  have e := (srt_le h).and ((srt_perm h).nodup_iff.mpr a.1)
  exact e.imp fun ⟨q, r⟩ => by omega
theorem srt_asc {n : Nat} {h : List Int} (a : Asc n h) : srt h = h := perm_sorted (srt_perm h) (srt_le h) (a.1.imp fun q => by omega)
theorem srt_of {n : Nat} {h k : List Int} (a : Asc n h) (p : k.Perm h) : srt k = h := perm_sorted ((srt_perm k).trans p) (srt_le k) (a.1.imp fun q => by omega)
theorem Hold.len {n : Nat} {h : List Int} (a : Hold n h) : h.length ≤ n := by
  rw [← (srt_perm h).length_eq]
  exact a.asc.len
theorem lenSet_l {h : List Int} (a : h.Nodup) (hl : h.length ≤ 4000) : lenSetD (.lst (iL h)) = some (.int (h.length : Nat)) := by
  unfold lenSetD
  rw [items_l, Option.bind_some, asInts_of, Option.bind_some, if_pos hl, dd_nodup a]
theorem are_different_spec {n : Nat} {h : List Int} (a : Hold n h) (hn : n ≤ 4000) : g_are_different [.lst (iL h), .int (n : Int)] = some (.v (.bl true)) := by
  unfold g_are_different t_are_different
  have hl := a.len
  walk_at "zs"
  have e := lcL_map (tg := dName 2) (tt := dYes) (te := dChain leD ltD (dC (.int 0)) (dVar 2) (dVar 1)) (g := [some (.v (.lst (iL h))), some (.v (.int (n : Int))), none]) (ds := iL h) (fun _ => .bl true) fun d hd => by
    unfold iL at hd
    obtain ⟨k, hk, rfl⟩ := List.mem_map.mp hd
    refine ⟨_, dName_ok rfl, rfl, ?_⟩
    have hk' := a.2 k hk
    walk_at "zs"
    rw [decide_eq_true hk'.1]
    walk_at "zs"
    rw [decide_eq_true hk'.2]
  rw [dLc_eq (ds := iL h) rfl rfl (by rw [iL_len]; omega) e]
  walk_at "zs"
  rw [all_true]
  walk_at "zs"
  rw [lenSet_l a.1 (by omega)]
  walk_at "zs"
  rw [beq_self_eq_true]
/-! ### pools -/
def poolF (caps : List Int) (hs : List (List Int)) : List (Str × D) := [("caps", .tup (iL caps)), ("holders", .tup (rowsT hs)), ("seats", .int (caps.length : Nat)), ("pieces", .int (hs.length : Nat))]
def poolD (c : Cs) (caps : List Int) (hs : List (List Int)) : D := .ins c.Pool (poolF caps hs)
theorem fld_caps {c : Cs} {caps : List Int} {hs : List (List Int)} : fldD c.Pool "caps" (poolD c caps hs) = some (.tup (iL caps)) := if_pos rfl
theorem fld_holders {c : Cs} {caps : List Int} {hs : List (List Int)} : fldD c.Pool "holders" (poolD c caps hs) = some (.tup (rowsT hs)) := if_pos rfl
theorem fld_pieces {c : Cs} {caps : List Int} {hs : List (List Int)} : fldD c.Pool "pieces" (poolD c caps hs) = some (.int (hs.length : Nat)) := if_pos rfl
theorem runI_eq {C : Addr} {m : Nat} {t : SF} {ds : List D} {gs : List (Str × D)} {r : Gm} (h : t (some (.o (.ins C [])) :: (ds.map (fun d => some (.v d)) ++ List.replicate m none)) = some (.nx (some (.o (.ins C gs)) :: r))) : Zk.runI C m t ds = some gs := by
  unfold Zk.runI
  rw [h]
  exact if_pos rfl
theorem min_l {ns : List Int} {m : Int} (h : ns.min? = some m) : minD [.lst (iL ns)] = some (.int m) := by
  show (asInts (iL ns)).bind _ = _
  rw [asInts_of, Option.bind_some, h]
  rfl
theorem enumL_get {ds : List D} {i : Nat} {d : D} : ∀ {n : Nat}, (enumL n ds)[i]? = some d → ∃ e, ds[i]? = some e ∧ d = .tup [.int ((n + i : Nat) : Int), e] := by
  induction ds generalizing i with
  | nil => intro n h; cases h
  | cons x ds ih =>
    intro n h
    cases i with
    | zero => exact ⟨x, rfl, by cases h; rfl⟩
    | succ i =>
      obtain ⟨e, h1, h2⟩ := ih (n := n + 1) h
      refine ⟨e, h1, ?_⟩
      rw [h2, show n + 1 + i = n + (i + 1) by omega]
theorem rowsL_get {hs : List (List Int)} {i : Nat} {d : D} (h : (rowsL hs)[i]? = some d) : ∃ r, hs[i]? = some r ∧ d = .lst (iL r) := by
  unfold rowsL at h
  rw [List.getElem?_map] at h
  cases e : hs[i]? with
  | none => rw [e] at h; cases h
  | some r => rw [e] at h; cases h; exact ⟨r, rfl, rfl⟩
theorem srt_l {h : List Int} : sortedD [.lst (iL h)] = some (.lst (iL (srt h))) := by
  show (asInts (iL h)).map _ = _
  rw [asInts_of]
  rfl
def apFld (C : Addr) (i : Nat) (f : Str) : Option D → SF := fun x g => x.bind fun d => match g[i]? with
  | some (some (.o (.ins C' gs))) => if C' = C ∧ gs.length < 1000 then some (.nx (g.set i (some (.o (.ins C (putD f d gs)))))) else none
  | _ => none
theorem sFldD_a {C : Addr} {i : Nat} {f : Str} {a : DF} {g : Gm} : sFldD C i f a g = apFld C i f (a g) g := rfl
theorem fld0 {C : Addr} {f : Str} {d : D} {gs : List (Str × D)} {r : Gm} (h : gs.length < 1000) : apFld C 0 f (some d) (some (.o (.ins C gs)) :: r) = some (.nx (some (.o (.ins C (putD f d gs))) :: r)) := if_pos ⟨rfl, h⟩
def pf1 (a : D) : List (Str × D) := [("caps", a)]
def pf2 (a b : D) : List (Str × D) := [("caps", a), ("holders", b)]
def pf3 (a b e : D) : List (Str × D) := [("caps", a), ("holders", b), ("seats", e)]
def pf4 (a b e d : D) : List (Str × D) := [("caps", a), ("holders", b), ("seats", e), ("pieces", d)]
theorem put1 {d : D} : putD "caps" d [] = pf1 d := rfl
theorem put2 {a d : D} : putD "holders" d (pf1 a) = pf2 a d := rfl
theorem put3 {a b d : D} : putD "seats" d (pf2 a b) = pf3 a b d := rfl
theorem put4 {a b e d : D} : putD "pieces" d (pf3 a b e) = pf4 a b e d := rfl
theorem fld1 {C : Addr} {f : Str} {a d : D} {r : Gm} : apFld C 0 f (some d) (some (.o (.ins C (pf1 a))) :: r) = some (.nx (some (.o (.ins C (putD f d (pf1 a)))) :: r)) := fld0 (show (1 : Nat) < 1000 by decide)
theorem fld2 {C : Addr} {f : Str} {a b d : D} {r : Gm} : apFld C 0 f (some d) (some (.o (.ins C (pf2 a b))) :: r) = some (.nx (some (.o (.ins C (putD f d (pf2 a b)))) :: r)) := fld0 (show (2 : Nat) < 1000 by decide)
theorem fld3 {C : Addr} {f : Str} {a b e d : D} {r : Gm} : apFld C 0 f (some d) (some (.o (.ins C (pf3 a b e))) :: r) = some (.nx (some (.o (.ins C (putD f d (pf3 a b e)))) :: r)) := fld0 (show (3 : Nat) < 1000 by decide)
theorem pf2_caps {C : Addr} {a b : D} : fldD C "caps" (.ins C (pf2 a b)) = some a := if_pos rfl
theorem pf3_holders {C : Addr} {a b e : D} : fldD C "holders" (.ins C (pf3 a b e)) = some b := if_pos rfl
theorem ordered_spec {n : Nat} {hs : List (List Int)} (h12 : n ≤ 1000) (hl : hs.length ≤ 1000) (hr : ∀ h ∈ hs, Hold n h) :
    g_ordered_holders [.lst (rowsL hs), .int (n : Int)] = some (.v (.tup (rowsT (hs.map srt)))) := by
  unfold g_ordered_holders t_ordered_holders
  walk_at "zs"
  refine loop_then (C := fun o => outW o = _) (fun i g => ∃ (k3 k4 : Option D), g = [some (.v (.lst (rowsL hs))), some (.v (.int (n : Int))), k3.map Wd.v, k4.map Wd.v]) ⟨none, none, rfl⟩ ?_ ?_
  · rintro i d g hd ⟨k3, k4, rfl⟩
    obtain ⟨e, he, rfl⟩ := enumL_get hd
    obtain ⟨r, hr1, rfl⟩ := rowsL_get he
    refine ⟨_, (dgTup_a rfl).trans rfl, ?_⟩
    walk_at "zs"
    rw [are_different_spec (hr r (List.mem_of_getElem? hr1)) (by omega)]
    walk_at "zs"
    exact step_nx ⟨some _, some _, rfl⟩
  · rintro g ⟨k3, k4, rfl⟩
    walk_at "zs"
    have e := lcL_map (tg := dName 3) (tt := dYes) (te := dN tupleD (aCons (dN sortedD (aCons (dVar 3) aNil)) aNil)) (g := [some (.v (.lst (rowsL hs))), some (.v (.int (n : Int))), k3.map Wd.v, none]) (ds := rowsL hs) (fun d => match d with
      | .lst ds => .tup (iL (srt ((asInts ds).getD [])))
      | d => d) fun d hd => by
      unfold rowsL at hd
      obtain ⟨r, hr1, rfl⟩ := List.mem_map.mp hd
      refine ⟨_, dName_ok rfl, rfl, ?_⟩
      walk_at "zs"
      rw [srt_l]
      walk_at "zs"
      rw [asInts_of]
      rfl
    rw [dLc_eq (ds := rowsL hs) (by cases k3 <;> cases k4 <;> rfl) rfl (by unfold rowsL; rw [List.length_map]; omega) e]
    have e2 : (rowsL hs).map (fun d => match d with
      | .lst ds => D.tup (iL (srt ((asInts ds).getD [])))
      | d => d) = rowsT (hs.map srt) := by
      unfold rowsL rowsT
      rw [List.map_map, List.map_map]
      congr 1
      funext r
      show D.tup (iL (srt ((asInts (iL r)).getD []))) = _
      rw [asInts_of]
      rfl
    rw [e2]
    walk_at "zs"
theorem Pool_init_spec (c : Cs) {caps : List Int} {hs : List (List Int)} (h1 : 1 ≤ caps.length) (h12 : caps.length ≤ 1000) (h0 : ∀ x ∈ caps, 0 ≤ x) (hl : hs.length ≤ 1000) (hr : ∀ h ∈ hs, Hold caps.length h) :
    g_Pool_init c [.lst (iL caps), .lst (rowsL hs)] = some (poolF caps (hs.map srt)) := by
  unfold g_Pool_init t_Pool_init
  obtain ⟨m, hm, hmem⟩ : ∃ m, caps.min? = some m ∧ m ∈ caps := by
    cases e : caps.min? with
    | none => rw [List.min?_eq_none_iff] at e; rw [e] at h1; exact absurd h1 (by decide)
    | some m => exact ⟨m, rfl, List.min?_mem e⟩
  suffices h : ∃ r, t_Pool_init c [some (.o (.ins c.Pool [])), some (.v (.lst (iL caps))), some (.v (.lst (rowsL hs)))] = some (.nx (some (.o (.ins c.Pool (poolF caps (hs.map srt)))) :: r)) by
    obtain ⟨r, h⟩ := h
    exact runI_eq h
  unfold t_Pool_init
  walk_at "zs"
  rw [show (((caps.length : Nat) : Int) == 0) = false from by rw [beq_eq_false_iff_ne]; omega]
  walk_at "zs"
  rw [min_l hm]
  walk_at "zs"
  rw [decide_eq_false (by have := h0 m hmem; omega)]
  walk_at "zs"
  simp only [sFldD_a]
  walk_at "zs"
  rw [fld0 (by decide), put1]
  walk_at "zs"
  simp only [sFldD_a]
  walk_at "zs"
  rw [ordered_spec h12 hl hr]
  walk_at "zs"
  rw [fld1, put2]
  walk_at "zs"
  simp only [sFldD_a]
  walk_at "zs"
  rw [pf2_caps]
  walk_at "zs"
  rw [fld2, put3]
  walk_at "zs"
  simp only [sFldD_a]
  walk_at "zs"
  rw [pf3_holders]
  walk_at "zs"
  rw [fld3, put4]
  have e3 : (rowsT (hs.map srt)).length = (hs.map srt).length := by unfold rowsT; rw [List.length_map]
  rw [e3]
  exact ⟨_, rfl⟩
end Zc
end

section
set_option Elab.async false
set_option linter.all false
set_option maxRecDepth 100000
set_option maxHeartbeats 2000000
/-! Rooms and held pairs. -/
namespace Zc
open PySem L2 Zk
local macro_rules | `(tactic| walk_at "zs") => `(tactic| simp only [dgTup2_a, dgTup3_a, Bool.not_true, Bool.not_false, mul_lz, List.flatten_cons, List.flatten_nil, Int.reduceToNat, add_ll, pow10_12, pow10_18, pow10_39, pow10_41, pow10_59, pow10_60, mkLst_some, mkTup_some, List.length_cons, List.length_nil, Nat.zero_le, Nat.reduceAdd, Nat.reduceLeDiff, call1, callO1, call2, callO2, call3, callO3, call4, callO4, call5, callO5, call6, callO6, ap1_some, ap2_some, apN_some, apC_some, d1_a, d2_a, dN_a, aNil_a, aCons_a, dC_a, dVar_z, dVar_s, tDt_a, apAnd_t, apAnd_f, apOr_t, apOr_f, dAndT_a, dOrT_a, apNot_some, dNotT_a, apAndV_t, apAndV_f, dAndV_a, apOrV_t, apOrV_f, dOrV_a, apIf_t, apIf_f, dIf_a, apCh_t, apCh_f, apChain_some, dChain_a, apSeq_nx, apSeq_rt, apSeq_ct, apSeq_bk, sSeq_a, apIfS_t, apIfS_f, sIf_a, sNext_a, sCont_a, sBreak_a, apRet_some, sRet_a, apRetO_some, sRetO_a, sRetN_a, getO_z, getO_s, apRetV_some, sRetV_a, ltB_z, ltB_s, okSlot_s, apAsg_some, sAsg_a, dName_ok, apG_some, dgCons_a, dgNil_a, apAsgO_some, sAsgO_a, sApp_a, sSetI_a, apFor_some, sFor_a, dItems_a, dRng1_a, dRng2_a, apEn_some, apEn_tup, dEnum_a, sFrz_a, frzs_nil, frzs_cons, frzI_o, frzI_v, frzI_n, frzI_s, frz1_s, frzAll_nil, frzAll_o, frzAll_v, frzAll_n, peekT_a, apPk_int, apPk_bl, apPk_str, apPk_non, peekF_a, dCall_a, toO_o, dCallO_a, dMake_a, Wd_v, Wd_o, dSl_a, apSl_some, oNone_a, oSome_a, apO_some, add_ii, sub_ii, lt_ii, le_ii, gt_ii, ge_ii, eq_ii, ne_ii, neg_i, not_b, bl_b, tru_b, tru_i, tru_l, tru_t, tru_n, len_l, len_t, len_scr, abs_i, int_i, list_l, list_t, tuple_l, tuple_t, min_ii, max_ii, rev_l, items_l, items_t, iL_len, run_a, outW_rt, outW_nx, List.map_cons, List.map_nil, List.replicate, List.append_nil, List.cons_append, List.nil_append, List.set_cons_zero, List.set_cons_succ, Option.map_some])
theorem cut_from {α : Type} (xs : List α) (n : Nat) : cutL xs (some (n : Int)) none = xs.drop n := by
  unfold cutL HT.sIx
  have e : ¬ ((n : Int) < 0) := by omega
  simp only [if_neg e, Int.toNat_natCast]
  by_cases h : n ≤ xs.length
  · rw [Nat.min_eq_left h, List.take_of_length_le (by rw [List.length_drop]; exact Nat.le_refl _)]
  · rw [Nat.min_eq_right (by omega), List.drop_of_length_le (Nat.le_refl _), List.drop_of_length_le (by omega), List.take_nil]
theorem cut_to {α : Type} (xs : List α) (n : Nat) : cutL xs none (some (n : Int)) = xs.take n := by
  unfold cutL HT.sIx
  have e : ¬ ((n : Int) < 0) := by omega
  simp only [if_neg e, Int.toNat_natCast, Nat.sub_zero, List.drop_zero]
  by_cases h : n ≤ xs.length
  · rw [Nat.min_eq_left h]
  · rw [Nat.min_eq_right (by omega), List.take_of_length_le (Nat.le_refl _), List.take_of_length_le (by omega)]
theorem ix_ti {ns : List Int} {m : Nat} {x : Int} (h : ns[m]? = some x) : ixD (.tup (iL ns)) (.int (m : Int)) = some (.int x) := ix_t (by rw [iL_get, h]; rfl)
theorem rowsT_len (hs : List (List Int)) : (rowsT hs).length = hs.length := by unfold rowsT; rw [List.length_map]
theorem rowsL_len (hs : List (List Int)) : (rowsL hs).length = hs.length := by unfold rowsL; rw [List.length_map]
theorem ix_rt {hs : List (List Int)} {m : Nat} {h : List Int} (e : hs[m]? = some h) : ixD (.tup (rowsT hs)) (.int (m : Int)) = some (.tup (iL h)) := ix_t (by unfold rowsT; rw [List.getElem?_map, e]; rfl)
theorem ix_p0 {a b : D} : ixD (.tup [a, b]) (.int 0) = some a := rfl
theorem ix_p1 {a b : D} : ixD (.tup [a, b]) (.int 1) = some b := rfl
def capAt (caps : List Int) (k : Int) : Int := caps[k.toNat]?.getD 0
theorem ix_cap {caps : List Int} {k : Int} (h0 : 0 ≤ k) (h : k < (caps.length : Nat)) : ixD (.tup (iL caps)) (.int k) = some (.int (capAt caps k)) := by
  obtain ⟨m, rfl⟩ := Int.eq_ofNat_of_zero_le h0
  have hm : m < caps.length := by omega
  unfold capAt
  rw [Int.toNat_natCast, List.getElem?_eq_getElem hm]
  exact ix_ti (List.getElem?_eq_getElem hm)
theorem pair_room_spec (c : Cs) {caps : List Int} {hs : List (List Int)} {a b : Int} (ha : 0 ≤ a ∧ a < (caps.length : Nat)) (hb : 0 ≤ b ∧ b < (caps.length : Nat)) :
    g_pair_room c [poolD c caps hs, .tup [.int a, .int b]] = some (.v (.int (if capAt caps b < capAt caps a then capAt caps b else capAt caps a))) := by
  unfold g_pair_room t_pair_room
  walk_at "zs"
  rw [fld_caps]
  walk_at "zs"
  rw [ix_cap ha.1 ha.2, ix_cap hb.1 hb.2]
  walk_at "zs"
theorem isi_ii {j : Int} : isiD [.int j, .ty "int"] = some (.bl true) := rfl
theorem isi_ib {j : Int} : isiD [.int j, .ty "bool"] = some (.bl false) := rfl
theorem isi_tt {ds : List D} : isiD [.tup ds, .ty "tuple"] = some (.bl true) := rfl
theorem isi_ll {ds : List D} : isiD [.lst ds, .ty "list"] = some (.bl true) := rfl
theorem is_integer_call (j : Int) : (g_law_is_integer [.int j]).map Wd.d = some (.bl true) := rfl
/-! ### held pairs -/
def prs : List Int → List D
  | [] => []
  | a :: r => r.map (pr a) ++ prs r
theorem prs_len : ∀ xs : List Int, (prs xs).length ≤ xs.length * xs.length
  | [] => Nat.le_refl _
  | a :: r => by
    have ih := prs_len r
    unfold prs
    rw [List.length_append, List.length_map, List.length_cons]
    have : (r.length + 1) * (r.length + 1) = r.length * r.length + r.length + r.length + 1 := by rw [Nat.add_mul, Nat.mul_add]; omega
    omega
def posC (caps : List Int) (k : Int) : Bool := decide (0 < capAt caps k)
def heldL (caps h : List Int) : List D := prs (h.filter (posC caps))
theorem dLc2_eq {it it1 : DIF} {tg tg1 : DGF} {tt tt1 : DTF} {te : DF} {vs vs1 : List Nat} {g : Gm} {ds es : List D} (hf : free g vs = true) (hi : it g = some ds) (h : collL (one2 tg tt it1 tg1 tt1 te vs1 (wipeG g vs)) ds = some es) (hl : es.length ≤ 100000) : dLc2 it tg tt it1 tg1 tt1 te vs vs1 g = some (.lst es) := by
  unfold dLc2
  rw [if_pos hf, hi, Option.bind_some, h, Option.bind_some, if_pos hl]
theorem coll_one {tg : DGF} {tt : DTF} {te : DF} {g : Gm} (F : D → D) : ∀ {ds : List D}, (∀ d, d ∈ ds → ∃ g1, tg d g = some g1 ∧ tt g1 = some true ∧ te g1 = some (F d)) → collL (one1 tg tt te g) ds = some (ds.map F)
  | [], _ => rfl
  | d :: ds, h => by
    obtain ⟨g1, h1, h2, h3⟩ := h d List.mem_cons_self
    have ih := coll_one (tg := tg) (tt := tt) (te := te) (g := g) F (ds := ds) fun d hd => h d (List.mem_cons_of_mem _ hd)
    unfold collL
    rw [ih]
    unfold one1
    rw [h1, Option.bind_some, h2, Option.bind_some, if_pos rfl, h3]
    rfl
theorem coll_prs {F : D → Option (List D)} {xs : List Int} (h : ∀ (i : Nat) (x : Int), xs[i]? = some x → F (.tup [.int (i : Int), .int x]) = some ((xs.drop (i + 1)).map (pr x))) : ∀ (r : List Int) (n : Nat), xs.drop n = r → collL F (enumL n (iL r)) = some (prs r)
  | [], _, _ => rfl
  | x :: r, n, e => by
    have e1 : xs[n]? = some x := by
      have := congrArg (fun l : List Int => l[0]?) e
      simpa [List.getElem?_drop] using this
    have e2 : xs.drop (n + 1) = r := by
      have := congrArg (List.drop 1) e
      rw [List.drop_drop] at this
      exact this
    have ih := coll_prs h r (n + 1) e2
    show (F (.tup [.int (n : Int), .int x])).bind _ = _
    rw [h n x e1, e2]
    show (collL F (enumL (n + 1) (iL r))).map _ = _
    rw [ih]
    rfl
theorem filt_iL (h : List Int) (T : D → Bool) (P : Int → Bool) (e : ∀ k, T (.int k) = P k) : (iL h).filter T = iL (h.filter P) := by
  unfold iL
  rw [List.filter_map]
  congr 1
  apply List.filter_congr
  intro k _
  exact e k
theorem pairs_room_spec (c : Cs) {caps : List Int} {hs : List (List Int)} {h : List Int} (ha : Asc caps.length h) (hc : caps.length ≤ 100) :
    g_pairs_with_room c [poolD c caps hs, .tup (iL h)] = some (.o (.lst (heldL caps h))) := by
  unfold g_pairs_with_room t_pairs_with_room
  walk_at "zs"
  have hl := ha.len
  have e := lcL_filter (tg := dName 3) (tt := tDt blD (d2 gtD (d2 ixD (d1 (fldD c.Pool "caps") (dVar 0)) (dVar 3)) (dC (.int 0)))) (te := dVar 3) (g := [some (.v (poolD c caps hs)), some (.v (.tup (iL h))), none, none, none, none, none]) (fun d => match d with
    | .int k => posC caps k
    | _ => false) id (ds := iL h) fun d hd => by
    unfold iL at hd
    obtain ⟨j, hj, rfl⟩ := List.mem_map.mp hd
    have hj' := ha.2 j hj
    refine ⟨_, dName_ok rfl, ?_, fun _ => rfl⟩
    walk_at "zs"
    rw [fld_caps]
    walk_at "zs"
    rw [ix_cap hj'.1 hj'.2]
    walk_at "zs"
    rfl
  rw [filt_iL h _ (posC caps) fun _ => rfl, List.map_id] at e
  rw [dLc_eq (ds := iL h) rfl (by walk_at "zs") (by rw [iL_len]; omega) e]
  walk_at "zs"
  generalize hxs : h.filter (posC caps) = xs
  have hxl : xs.length ≤ h.length := by rw [← hxs]; exact (List.filter_sublist).length_le
  have e2 := coll_prs (xs := xs) (F := one2 (dgTup 2 (dgCons (dName 4) (dgCons (dName 5) dgNil))) dYes (dItems (dSl (dVar 2) (oSome (d2 addD (dVar 4) (dC (.int 1)))) oNone)) (dName 6) dYes (dN mkTup (aCons (dVar 5) (aCons (dVar 6) aNil))) [6] [some (.v (poolD c caps hs)), some (.v (.tup (iL h))), some (.v (.lst (iL xs))), none, none, none, none]) (fun i x hx => by
    unfold one2
    rw [dgTup2_a]
    show (dItems (dSl (dVar 2) (oSome (d2 addD (dVar 4) (dC (.int 1)))) oNone) [some (.v (poolD c caps hs)), some (.v (.tup (iL h))), some (.v (.lst (iL xs))), none, some (.v (.int (i : Int))), some (.v (.int x)), none]).bind _ = _
    walk_at "zs"
    rw [show (i : Int) + 1 = ((i + 1 : Nat) : Int) by omega, cut_from]
    have e3 := coll_one (tg := dName 6) (tt := dYes) (te := dN mkTup (aCons (dVar 5) (aCons (dVar 6) aNil))) (g := [some (.v (poolD c caps hs)), some (.v (.tup (iL h))), some (.v (.lst (iL xs))), none, some (.v (.int (i : Int))), some (.v (.int x)), none]) (fun d => .tup [.int x, d]) (ds := iL (xs.drop (i + 1))) fun d hd => by
      refine ⟨_, dName_ok rfl, rfl, ?_⟩
      walk_at "zs"
    rw [show (iL xs).drop (i + 1) = iL (xs.drop (i + 1)) from by unfold iL; rw [List.map_drop]]
    refine e3.trans ?_
    unfold iL
    rw [List.map_map]
    rfl) xs 0 rfl
  have hpl := prs_len xs
  have hb : xs.length * xs.length ≤ 100 * 100 := Nat.mul_le_mul (by omega) (by omega)
  rw [dLc2_eq (ds := enumL 0 (iL xs)) rfl (by walk_at "zs") e2 (by omega)]
  walk_at "zs"
  unfold heldL
  rw [hxs]
theorem held_pairs_spec (c : Cs) {caps : List Int} {hs : List (List Int)} {h : List Int} {k : Nat} (hk : hs[k]? = some h) (ha : Asc caps.length h) (hc : caps.length ≤ 100) :
    g_held_pairs c [poolD c caps hs, .int (k : Int)] = some (.o (.lst (heldL caps h))) := by
  unfold g_held_pairs t_held_pairs
  walk_at "zs"
  rw [fld_holders]
  walk_at "zs"
  rw [ix_rt hk]
  walk_at "zs"
  rw [pairs_room_spec c ha hc]
  walk_at "zs"
end Zc
end

section
set_option Elab.async false
set_option linter.all false
set_option maxRecDepth 100000
set_option autoImplicit false
set_option maxHeartbeats 2000000
/-! Values laid out as data: ==, in, count. -/
namespace Zk
open PySem L2
structure Enc {α : Type} [DecidableEq α] (f : α → D) (p : α → PyData) (k : Nat) : Prop where
  to : ∀ a, toP (f a) = some (p a)
  eqv : ∀ a b, PyData.eqv (p a) (p b) = decide (a = b)
  lay : ∀ a, (p a).canLay0 = true
  dep : ∀ a, (p a).depth ≤ k
section
variable {α : Type} [DecidableEq α] {f : α → D} {p : α → PyData} {k : Nat}
theorem Enc.tos (e : Enc f p k) : ∀ xs : List α, toPs (xs.map f) = some (xs.map p)
  | [] => rfl
  | x :: xs => by
    show (toP (f x)).bind (fun q => (toPs (xs.map f)).map (q :: ·)) = _
    rw [e.to, e.tos xs]
    rfl
theorem Enc.lays (e : Enc f p k) : ∀ xs : List α, PyData.canLayAll0 (xs.map p) = true
  | [] => rfl
  | x :: xs => by
    show PyData.canLayAll0 (p x :: xs.map p) = true
    unfold PyData.canLayAll0
    rw [e.lay, e.lays xs]
    rfl
theorem Enc.deps (e : Enc f p k) : ∀ xs : List α, PyData.depthAll (xs.map p) ≤ k
  | [] => Nat.zero_le _
  | x :: xs => by
    show PyData.depthAll (p x :: xs.map p) ≤ k
    unfold PyData.depthAll
    exact Nat.max_le.mpr ⟨e.dep x, e.deps xs⟩
theorem Enc.eqvs (e : Enc f p k) : ∀ xs ys : List α, PyData.eqvAll (xs.map p) (ys.map p) = decide (xs = ys)
  | [], [] => by simp [PyData.eqvAll]
  | [], y :: ys => by simp [PyData.eqvAll]
  | x :: xs, [] => by simp [PyData.eqvAll]
  | x :: xs, y :: ys => by
    show PyData.eqvAll (p x :: xs.map p) (p y :: ys.map p) = _
    unfold PyData.eqvAll
    rw [e.eqv, e.eqvs xs ys]
    by_cases h : x = y <;> by_cases h2 : xs = ys <;> simp [h, h2]
theorem Enc.lst (e : Enc f p k) : Enc (fun xs : List α => D.lst (xs.map f)) (fun xs => PyData.list (xs.map p)) (k + 1) where
  to xs := by
    show (toPs (xs.map f)).map PyData.list = _
    rw [e.tos]
    rfl
  eqv xs ys := by
    show PyData.eqv (.list (xs.map p)) (.list (ys.map p)) = _
    unfold PyData.eqv
    exact e.eqvs xs ys
  lay xs := by
    show (PyData.list (xs.map p)).canLay0 = true
    unfold PyData.canLay0
    exact e.lays xs
  dep xs := by
    show (PyData.list (xs.map p)).depth ≤ k + 1
    unfold PyData.depth
    have := e.deps xs
    omega
theorem Enc.tup (e : Enc f p k) : Enc (fun xs : List α => D.tup (xs.map f)) (fun xs => PyData.tuple (xs.map p)) (k + 1) where
  to xs := by
    show (toPs (xs.map f)).map PyData.tuple = _
    rw [e.tos]
    rfl
  eqv xs ys := by
    show PyData.eqv (.tuple (xs.map p)) (.tuple (ys.map p)) = _
    unfold PyData.eqv
    exact e.eqvs xs ys
  lay xs := by
    show (PyData.tuple (xs.map p)).canLay0 = true
    unfold PyData.canLay0
    exact e.lays xs
  dep xs := by
    show (PyData.tuple (xs.map p)).depth ≤ k + 1
    unfold PyData.depth
    have := e.deps xs
    omega
theorem Enc.shaped (e : Enc f p k) (hk : k ≤ 64) (a : α) : SeqAt.shaped (p a) = true := by
  unfold SeqAt.shaped
  rw [e.lay, decide_eq_true (Nat.le_trans (e.dep a) hk)]
  rfl
theorem Enc.small (e : Enc f p k) (hk : k ≤ 60) (a : α) : small (p a) = true := by
  unfold Zk.small
  rw [e.lay, decide_eq_true (Nat.le_trans (e.dep a) hk)]
  rfl
theorem Enc.eqB (e : Enc f p k) (hk : k ≤ 64) (a b : α) : eqB (f a) (f b) = some (decide (a = b)) := by
  unfold Zk.eqB
  rw [e.to, e.to, Option.bind_some, Option.bind_some, e.shaped hk, e.shaped hk, e.eqv]
  rfl
theorem Enc.eqD (e : Enc f p k) (hk : k ≤ 64) (a b : α) : eqD (f a) (f b) = some (.bl (decide (a = b))) := by
  unfold Zk.eqD
  rw [e.eqB hk]
  rfl
theorem Enc.neD (e : Enc f p k) (hk : k ≤ 64) (a b : α) : neD (f a) (f b) = some (.bl (!decide (a = b))) := by
  unfold Zk.neD
  rw [e.eqB hk]
  rfl
theorem Enc.any (e : Enc f p k) (xs : List α) (a : α) : ((xs.map p).any fun z => PyData.eqv z (p a)) = decide (a ∈ xs) := by
  rw [List.any_map]
  have e1 : ((fun z => PyData.eqv z (p a)) ∘ p) = fun b => decide (b = a) := by
    funext b
    exact e.eqv b a
  rw [e1, Bool.eq_iff_iff, List.any_eq_true, decide_eq_true_iff]
  exact ⟨fun ⟨b, h1, h2⟩ => of_decide_eq_true h2 ▸ h1, fun h => ⟨a, h, decide_eq_true rfl⟩⟩
theorem Enc.inL (e : Enc f p k) (hk : k ≤ 60) (a : α) (xs : List α) [di : Decidable (a ∈ xs)] : inPD (f a) (.lst (xs.map f)) = some (.bl (decide (a ∈ xs))) := by
  show ((toP (f a)).bind fun d => (toPs (xs.map f)).bind fun ps => if (Zk.small d && PyData.canLayAll0 ps) = true then some (ps.any fun z => PyData.eqv z d) else none).map D.bl = _
  rw [e.to, e.tos, Option.bind_some, Option.bind_some, e.small hk, e.lays, e.any]
  exact congrArg (fun b => some (D.bl b)) (decide_eq_decide.mpr Iff.rfl)
theorem Enc.ninL (e : Enc f p k) (hk : k ≤ 60) (a : α) (xs : List α) [di : Decidable (a ∈ xs)] : ninPD (f a) (.lst (xs.map f)) = some (.bl (!decide (a ∈ xs))) := by
  show ((toP (f a)).bind fun d => (toPs (xs.map f)).bind fun ps => if (Zk.small d && PyData.canLayAll0 ps) = true then some (ps.any fun z => PyData.eqv z d) else none).map (fun b => D.bl (!b)) = _
  rw [e.to, e.tos, Option.bind_some, Option.bind_some, e.small hk, e.lays, e.any]
  exact congrArg (fun b => some (D.bl (!b))) (decide_eq_decide.mpr Iff.rfl)
theorem Enc.count (e : Enc f p k) (hk : k ≤ 60) (a : α) (xs : List α) [BEq α] [LawfulBEq α] : countD (.lst (xs.map f)) (f a) = some (.int ((xs.count a : Nat) : Int)) := by
  show ((toP (f a)).bind fun d => (toPs (xs.map f)).bind fun ps => if (Zk.small d && PyData.canLayAll0 ps) = true then some (D.int ((ps.countP fun z => PyData.eqv z d : Nat) : Int)) else none) = _
  rw [e.to, e.tos, Option.bind_some, Option.bind_some, e.small hk, e.lays, List.countP_map]
  have e1 : ((fun z => PyData.eqv z (p a)) ∘ p) = fun b => b == a := by
    funext b
    show PyData.eqv (p b) (p a) = _
    rw [e.eqv]
    rw [Bool.eq_iff_iff]; simp
  rw [e1]
  rfl
end
theorem encInt : Enc D.int PyData.int 1 where
  to _ := rfl
  eqv a b := by simp only [PyData.eqv]; rw [Bool.eq_iff_iff]; simp
  lay _ := rfl
  dep _ := by simp [PyData.depth]
/-- a pair of two things -/
theorem Enc.two {α β : Type} [DecidableEq α] [DecidableEq β] {f : α → D} {p : α → PyData} {f' : β → D} {p' : β → PyData} {k : Nat} (e : Enc f p k) (e' : Enc f' p' k) :
    Enc (fun x : α × β => D.tup [f x.1, f' x.2]) (fun x => PyData.tuple [p x.1, p' x.2]) (k + 1) where
  to x := by
    show ((toP (f x.1)).bind fun q => ((toP (f' x.2)).bind fun q' => some [q']).map (q :: ·)).map PyData.tuple = _
    rw [e.to, e'.to]
    rfl
  eqv x y := by
    show PyData.eqv (.tuple [p x.1, p' x.2]) (.tuple [p y.1, p' y.2]) = _
    simp only [PyData.eqv, PyData.eqvAll, e.eqv, e'.eqv]
    obtain ⟨a, b⟩ := x
    obtain ⟨c, d⟩ := y
    by_cases h : a = c <;> by_cases h2 : b = d <;> simp [h, h2]
  lay x := by
    show (PyData.tuple [p x.1, p' x.2]).canLay0 = true
    simp only [PyData.canLay0, PyData.canLayAll0, e.lay, e'.lay]
    rfl
  dep x := by
    show (PyData.tuple [p x.1, p' x.2]).depth ≤ k + 1
    simp only [PyData.depth, PyData.depthAll]
    have h1 := e.dep x.1
    have h2 := e'.dep x.2
    omega
/-- a thing or None -/
def optD {α : Type} (f : α → D) : Option α → D
  | none => .non
  | some a => f a
def optP {α : Type} (p : α → PyData) : Option α → PyData
  | none => .none
  | some a => p a
theorem Enc.opt {α : Type} [DecidableEq α] {f : α → D} {p : α → PyData} {k : Nat} (e : Enc f p k) (h1 : ∀ a, PyData.eqv .none (p a) = false) (h2 : ∀ a, PyData.eqv (p a) .none = false) : Enc (optD f) (optP p) (k + 1) where
  to x := by cases x with | none => rfl | some a => exact e.to a
  eqv x y := by
    cases x with
    | none => cases y with
      | none => simp [optP, PyData.eqv]
      | some b => exact (h1 b).trans (by simp)
    | some a => cases y with
      | none => exact (h2 a).trans (by simp)
      | some b => show PyData.eqv (p a) (p b) = _; rw [e.eqv]; simp
  lay x := by cases x with | none => rfl | some a => exact e.lay a
  dep x := by
    cases x with
    | none => simp [optP, PyData.depth]
    | some a => exact Nat.le_succ_of_le (e.dep a)
theorem Enc.mono {α : Type} [DecidableEq α] {f : α → D} {p : α → PyData} {k : Nat} (e : Enc f p k) {m : Nat} (h : k ≤ m) : Enc f p m := ⟨e.to, e.eqv, e.lay, fun a => Nat.le_trans (e.dep a) h⟩
/-- a comprehension over values laid out -/
theorem lc_filt {α : Type} {tg : DGF} {tt : DTF} {te : DF} {g : Gm} (f : α → D) (T : α → Bool) (F : α → D) : ∀ {xs : List α}, (∀ a, a ∈ xs → ∃ g1, tg (f a) g = some g1 ∧ tt g1 = some (T a) ∧ (T a = true → te g1 = some (F a))) → lcL tg tt te g (xs.map f) = some ((xs.filter T).map F)
  | [], _ => rfl
  | a :: xs, h => by
    obtain ⟨g1, h1, h2, h3⟩ := h a List.mem_cons_self
    have ih := lc_filt (tg := tg) (tt := tt) (te := te) (g := g) f T F (xs := xs) fun d hd => h d (List.mem_cons_of_mem _ hd)
    show lcL tg tt te g (f a :: xs.map f) = _
    unfold lcL
    rw [h1, Option.bind_some, h2, Option.bind_some, ih, List.filter_cons]
    cases ht : T a with
    | true => simp [h3 ht]
    | false => simp
end Zk
end

section
set_option Elab.async false
set_option linter.all false
set_option maxRecDepth 100000
set_option autoImplicit false
set_option maxHeartbeats 2000000
/-! Loops that may end early. -/
namespace Zk
open PySem L2
/-- how a turn ends: on, out by return, out by break -/
def Turn (o : Option Out) (J : Gm → Prop) (R : Wd → Prop) (B : Gm → Prop) : Prop := StepTo o J ∨ (∃ w, o = some (.rt w) ∧ R w) ∨ ∃ g, o = some (.bk g) ∧ B g
theorem turn_nx {g : Gm} {J B : Gm → Prop} {R : Wd → Prop} (h : J g) : Turn (some (.nx g)) J R B := .inl (step_nx h)
theorem turn_rt {w : Wd} {J B : Gm → Prop} {R : Wd → Prop} (h : R w) : Turn (some (.rt w)) J R B := .inr (.inl ⟨w, rfl, h⟩)
theorem turn_bk {g : Gm} {J B : Gm → Prop} {R : Wd → Prop} (h : B g) : Turn (some (.bk g)) J R B := .inr (.inr ⟨g, rfl, h⟩)
theorem loop_gen {f : DGF} {s : SF} {R : Wd → Prop} {B : Gm → Prop} : ∀ {ds : List D} (I : Nat → Gm → Prop) {g : Gm}, I 0 g →
    (∀ (i : Nat) (d : D) (g : Gm), ds[i]? = some d → I i g → ∃ g1, f d g = some g1 ∧ Turn (s g1) (I (i + 1)) R B) →
    (∃ g', loopD f s ds g = some (.nx g') ∧ (I ds.length g' ∨ B g')) ∨ ∃ w, loopD f s ds g = some (.rt w) ∧ R w
  | [], I, g, h0, hs => .inl ⟨g, rfl, .inl h0⟩
  | d :: ds, I, g, h0, hs => by
    obtain ⟨g1, h1, h2⟩ := hs 0 d g rfl h0
    rcases h2 with ⟨g2, h2, h3⟩ | ⟨w, h2, h3⟩ | ⟨g2, h2, h3⟩
    · have ih := loop_gen (f := f) (s := s) (R := R) (B := B) (ds := ds) (fun i g => I (i + 1) g) h3 fun i e g he hI => hs (i + 1) e g (by simpa using he) hI
      have e : loopD f s (d :: ds) g = loopD f s ds g2 := by
        rw [show loopD f s (d :: ds) g = (f d g).bind fun g1 => (s g1).bind fun o => match o with
          | .nx g2 => loopD f s ds g2
          | .ct g2 => loopD f s ds g2
          | .bk g2 => some (.nx g2)
          | .rt w => some (.rt w) from rfl, h1, Option.bind_some]
        rcases h2 with h2 | h2 <;> rw [h2] <;> rfl
      rw [e]
      exact ih
    · refine .inr ⟨w, ?_, h3⟩
      unfold loopD
      rw [h1, Option.bind_some, h2]
      rfl
    · refine .inl ⟨g2, ?_, .inr h3⟩
      unfold loopD
      rw [h1, Option.bind_some, h2]
      rfl
/-- the loop, and what follows -/
theorem gen_then {f : DGF} {s q : SF} {ds : List D} {C : Option Out → Prop} (R : Wd → Prop) (B : Gm → Prop) (I : Nat → Gm → Prop) {g : Gm} (h0 : I 0 g)
    (hs : ∀ (i : Nat) (d : D) (g : Gm), ds[i]? = some d → I i g → ∃ g1, f d g = some g1 ∧ Turn (s g1) (I (i + 1)) R B)
    (k : ∀ g', I ds.length g' → C (q g')) (kb : ∀ g', B g' → C (q g')) (kr : ∀ w, R w → C (some (.rt w))) : C (apSeq (loopD f s ds g) q) := by
  rcases loop_gen I h0 hs with ⟨g', e, h | h⟩ | ⟨w, e, h⟩
  · rw [e]; exact k g' h
  · rw [e]; exact kb g' h
  · rw [e]; exact kr w h
end Zk
end

section
set_option Elab.async false
set_option linter.all false
set_option maxRecDepth 100000
set_option maxHeartbeats 2000000
/-! Items that differ, whatever they are. -/
namespace Zc
open PySem L2 Zk
theorem dd_le : ∀ xs : List Int, (dd xs).length ≤ xs.length
  | [] => Nat.le_refl _
  | x :: xs => by
    have := dd_le xs
    unfold dd
    split
    · simp; omega
    · simp; omega
instance {n : Nat} {h : List Int} : Decidable (Hold n h) := by unfold Hold; exact inferInstance
end Zc
end

section
set_option Elab.async false
set_option linter.all false
set_option maxRecDepth 100000
set_option autoImplicit false
set_option maxHeartbeats 2000000
/-! Total words for items, and steps that leave less to say. -/
namespace Zk
open PySem L2
/-- the item at a place -/
def at_ {α : Type} [Inhabited α] (xs : List α) (k : Int) : α := xs[k.toNat]?.getD default
section
variable {α : Type} [Inhabited α]
theorem at_eq {xs : List α} {k : Int} {m : Nat} {a : α} (e : k = (m : Int)) (h : xs[m]? = some a) : at_ xs k = a := by
  unfold at_
  rw [e, Int.toNat_natCast, h]; rfl
theorem at_get {xs : List α} {k : Int} (h0 : 0 ≤ k) (h : k < (xs.length : Nat)) : xs[k.toNat]? = some (at_ xs k) := by
  have hm : k.toNat < xs.length := by omega
  unfold at_
  rw [List.getElem?_eq_getElem hm]; rfl
theorem at_mem {xs : List α} {k : Int} (h0 : 0 ≤ k) (h : k < (xs.length : Nat)) : at_ xs k ∈ xs := List.mem_of_getElem? (at_get h0 h)
theorem ix_at {f : α → D} {xs : List α} {k : Int} (h0 : 0 ≤ k) (h : k < (xs.length : Nat)) : ixD (.lst (xs.map f)) (.int k) = some (f (at_ xs k)) := by
  have e := ix_l (ds := xs.map f) (m := k.toNat) (d := f (at_ xs k)) (by rw [List.getElem?_map, at_get h0 h]; rfl)
  rw [show ((k.toNat : Nat) : Int) = k by omega] at e
  exact e
theorem ix_atT {f : α → D} {xs : List α} {k : Int} (h0 : 0 ≤ k) (h : k < (xs.length : Nat)) : ixD (.tup (xs.map f)) (.int k) = some (f (at_ xs k)) := by
  have e := ix_t (ds := xs.map f) (m := k.toNat) (d := f (at_ xs k)) (by rw [List.getElem?_map, at_get h0 h]; rfl)
  rw [show ((k.toNat : Nat) : Int) = k by omega] at e
  exact e
end
theorem ix_atI {xs : List Int} {k : Int} (h0 : 0 ≤ k) (h : k < (xs.length : Nat)) : ixD (.lst (iL xs)) (.int k) = some (.int (at_ xs k)) := ix_at h0 h
theorem ix_atIT {xs : List Int} {k : Int} (h0 : 0 ≤ k) (h : k < (xs.length : Nat)) : ixD (.tup (iL xs)) (.int k) = some (.int (at_ xs k)) := ix_atT h0 h
theorem ix_atR {xs : List (List Int)} {k : Int} (h0 : 0 ≤ k) (h : k < (xs.length : Nat)) : ixD (.lst (rowsL xs)) (.int k) = some (.lst (iL (at_ xs k))) := ix_at h0 h
theorem ix_atRT {xs : List (List Int)} {k : Int} (h0 : 0 ≤ k) (h : k < (xs.length : Nat)) : ixD (.tup (rowsT xs)) (.int k) = some (.tup (iL (at_ xs k))) := ix_atT h0 h
theorem ix_lit2 {x0 x1 k : Int} (h0 : 0 ≤ k) (h : k < 2) : ixD (.tup [.int x0, .int x1]) (.int k) = some (.int (at_ [x0, x1] k)) := ix_atIT (xs := [x0, x1]) h0 h
theorem ix_lit3 {x0 x1 x2 k : Int} (h0 : 0 ≤ k) (h : k < 3) : ixD (.tup [.int x0, .int x1, .int x2]) (.int k) = some (.int (at_ [x0, x1, x2] k)) := ix_atIT (xs := [x0, x1, x2]) h0 h
theorem ix_lit4 {x0 x1 x2 x3 k : Int} (h0 : 0 ≤ k) (h : k < 4) : ixD (.tup [.int x0, .int x1, .int x2, .int x3]) (.int k) = some (.int (at_ [x0, x1, x2, x3] k)) := ix_atIT (xs := [x0, x1, x2, x3]) h0 h
theorem ix_lit5 {x0 x1 x2 x3 x4 k : Int} (h0 : 0 ≤ k) (h : k < 5) : ixD (.tup [.int x0, .int x1, .int x2, .int x3, .int x4]) (.int k) = some (.int (at_ [x0, x1, x2, x3, x4] k)) := ix_atIT (xs := [x0, x1, x2, x3, x4]) h0 h
theorem ix_lit6 {x0 x1 x2 x3 x4 x5 k : Int} (h0 : 0 ≤ k) (h : k < 6) : ixD (.tup [.int x0, .int x1, .int x2, .int x3, .int x4, .int x5]) (.int k) = some (.int (at_ [x0, x1, x2, x3, x4, x5] k)) := ix_atIT (xs := [x0, x1, x2, x3, x4, x5]) h0 h
theorem ix_lit7 {x0 x1 x2 x3 x4 x5 x6 k : Int} (h0 : 0 ≤ k) (h : k < 7) : ixD (.tup [.int x0, .int x1, .int x2, .int x3, .int x4, .int x5, .int x6]) (.int k) = some (.int (at_ [x0, x1, x2, x3, x4, x5, x6] k)) := ix_atIT (xs := [x0, x1, x2, x3, x4, x5, x6]) h0 h
theorem ix_lit8 {x0 x1 x2 x3 x4 x5 x6 x7 k : Int} (h0 : 0 ≤ k) (h : k < 8) : ixD (.tup [.int x0, .int x1, .int x2, .int x3, .int x4, .int x5, .int x6, .int x7]) (.int k) = some (.int (at_ [x0, x1, x2, x3, x4, x5, x6, x7] k)) := ix_atIT (xs := [x0, x1, x2, x3, x4, x5, x6, x7]) h0 h
theorem ix_lit9 {x0 x1 x2 x3 x4 x5 x6 x7 x8 k : Int} (h0 : 0 ≤ k) (h : k < 9) : ixD (.tup [.int x0, .int x1, .int x2, .int x3, .int x4, .int x5, .int x6, .int x7, .int x8]) (.int k) = some (.int (at_ [x0, x1, x2, x3, x4, x5, x6, x7, x8] k)) := ix_atIT (xs := [x0, x1, x2, x3, x4, x5, x6, x7, x8]) h0 h
theorem ix_lit10 {x0 x1 x2 x3 x4 x5 x6 x7 x8 x9 k : Int} (h0 : 0 ≤ k) (h : k < 10) : ixD (.tup [.int x0, .int x1, .int x2, .int x3, .int x4, .int x5, .int x6, .int x7, .int x8, .int x9]) (.int k) = some (.int (at_ [x0, x1, x2, x3, x4, x5, x6, x7, x8, x9] k)) := ix_atIT (xs := [x0, x1, x2, x3, x4, x5, x6, x7, x8, x9]) h0 h
theorem ix_lit11 {x0 x1 x2 x3 x4 x5 x6 x7 x8 x9 x10 k : Int} (h0 : 0 ≤ k) (h : k < 11) : ixD (.tup [.int x0, .int x1, .int x2, .int x3, .int x4, .int x5, .int x6, .int x7, .int x8, .int x9, .int x10]) (.int k) = some (.int (at_ [x0, x1, x2, x3, x4, x5, x6, x7, x8, x9, x10] k)) := ix_atIT (xs := [x0, x1, x2, x3, x4, x5, x6, x7, x8, x9, x10]) h0 h
theorem ix_lit12 {x0 x1 x2 x3 x4 x5 x6 x7 x8 x9 x10 x11 k : Int} (h0 : 0 ≤ k) (h : k < 12) : ixD (.tup [.int x0, .int x1, .int x2, .int x3, .int x4, .int x5, .int x6, .int x7, .int x8, .int x9, .int x10, .int x11]) (.int k) = some (.int (at_ [x0, x1, x2, x3, x4, x5, x6, x7, x8, x9, x10, x11] k)) := ix_atIT (xs := [x0, x1, x2, x3, x4, x5, x6, x7, x8, x9, x10, x11]) h0 h
theorem ix_lit13 {x0 x1 x2 x3 x4 x5 x6 x7 x8 x9 x10 x11 x12 k : Int} (h0 : 0 ≤ k) (h : k < 13) : ixD (.tup [.int x0, .int x1, .int x2, .int x3, .int x4, .int x5, .int x6, .int x7, .int x8, .int x9, .int x10, .int x11, .int x12]) (.int k) = some (.int (at_ [x0, x1, x2, x3, x4, x5, x6, x7, x8, x9, x10, x11, x12] k)) := ix_atIT (xs := [x0, x1, x2, x3, x4, x5, x6, x7, x8, x9, x10, x11, x12]) h0 h
theorem ix_lit14 {x0 x1 x2 x3 x4 x5 x6 x7 x8 x9 x10 x11 x12 x13 k : Int} (h0 : 0 ≤ k) (h : k < 14) : ixD (.tup [.int x0, .int x1, .int x2, .int x3, .int x4, .int x5, .int x6, .int x7, .int x8, .int x9, .int x10, .int x11, .int x12, .int x13]) (.int k) = some (.int (at_ [x0, x1, x2, x3, x4, x5, x6, x7, x8, x9, x10, x11, x12, x13] k)) := ix_atIT (xs := [x0, x1, x2, x3, x4, x5, x6, x7, x8, x9, x10, x11, x12, x13]) h0 h
theorem ix_lit15 {x0 x1 x2 x3 x4 x5 x6 x7 x8 x9 x10 x11 x12 x13 x14 k : Int} (h0 : 0 ≤ k) (h : k < 15) : ixD (.tup [.int x0, .int x1, .int x2, .int x3, .int x4, .int x5, .int x6, .int x7, .int x8, .int x9, .int x10, .int x11, .int x12, .int x13, .int x14]) (.int k) = some (.int (at_ [x0, x1, x2, x3, x4, x5, x6, x7, x8, x9, x10, x11, x12, x13, x14] k)) := ix_atIT (xs := [x0, x1, x2, x3, x4, x5, x6, x7, x8, x9, x10, x11, x12, x13, x14]) h0 h
theorem Below.at {ds sizes : List Int} (h : Below ds sizes) {k : Int} (s : Int) (h0 : 0 ≤ k) (h1 : sizes[k.toNat]? = some s) : 0 ≤ at_ ds k ∧ at_ ds k < s := by
  obtain ⟨d, e, h2⟩ := h.get h1
  rw [show at_ ds k = d from at_eq (m := k.toNat) (by omega) e]
  exact h2
theorem Below.len {ds sizes : List Int} (h : Below ds sizes) : ds.length = sizes.length := h.1
theorem apR1_any {k : Int} (h : k ≤ 1000000 ∧ -1000000 ≤ k) : apR1 (some [.int k]) = some (rngL 0 k.toNat) := if_pos h
/-! ### steps -/
section
variable {s u q : SF} {g : Gm} {C : Option Out → Prop}
theorem if_cut {b : Bool} (ht : b = true → C (apSeq (s g) q)) (hf : b = false → C (apSeq (u g) q)) : C (apSeq (apIfS (some b) s u g) q) := by
  cases b with
  | true => exact ht rfl
  | false => exact hf rfl
theorem if_end {b : Bool} (ht : b = true → C (s g)) (hf : b = false → C (u g)) : C (apIfS (some b) s u g) := by
  cases b with
  | true => exact ht rfl
  | false => exact hf rfl
/-- a loop over things laid out -/
theorem loop_each {α : Type} {f : DGF} (enc : α → D) (xs : List α) (I : Nat → Gm → Prop) (h0 : I 0 g) (hs : ∀ (i : Nat) (a : α) (g : Gm), xs[i]? = some a → I i g → ∃ g1, f (enc a) g = some g1 ∧ StepTo (s g1) (I (i + 1)))
    (k : ∀ g', I xs.length g' → C (q g')) : C (apSeq (loopD f s (xs.map enc) g) q) :=
  loop_then I h0 (fun i d g hd hI => by
    rw [List.getElem?_map] at hd
    cases e : xs[i]? with
    | none => rw [e] at hd; cases hd
    | some a => rw [e] at hd; cases hd; exact hs i a g e hI) fun g' h => k g' (by rw [List.length_map] at h; exact h)
end
/-! ### comprehensions -/
section
variable {it : DIF} {tg : DGF} {tt : DTF} {te : DF} {vs : List Nat} {g : Gm}
theorem dLc_filt {α : Type} (f : α → D) {xs : List α} {T : α → Bool} {F : α → D} (hf : free g vs = true) (hi : it g = some (xs.map f)) (hl : xs.length ≤ 100000)
    (h : ∀ a, a ∈ xs → ∃ g1, tg (f a) (wipeG g vs) = some g1 ∧ tt g1 = some (T a) ∧ (T a = true → te g1 = some (F a))) : dLc it tg tt te vs g = some (.lst ((xs.filter T).map F)) :=
  dLc_eq hf hi (by rw [List.length_map]; exact hl) (lc_filt f T F h)
theorem dLc_map {α : Type} (f : α → D) {xs : List α} {F : α → D} (hf : free g vs = true) (hi : it g = some (xs.map f)) (hl : xs.length ≤ 100000)
    (h : ∀ a, a ∈ xs → ∃ g1, tg (f a) (wipeG g vs) = some g1 ∧ te g1 = some (F a)) : dLc it tg dYes te vs g = some (.lst (xs.map F)) := by
  have e := dLc_filt (tt := dYes) f (T := fun _ => true) (F := F) hf hi hl (fun a ha => by obtain ⟨g1, h1, h2⟩ := h a ha; exact ⟨g1, h1, rfl, fun _ => h2⟩)
  rw [List.filter_eq_self.mpr fun _ _ => rfl] at e
  exact e
theorem rngL_map (n : Nat) : rngL 0 n = (List.range n).map fun i => D.int ((i : Nat) : Int) := by
  unfold rngL
  refine List.map_congr_left fun i _ => ?_
  rw [Int.zero_add]
theorem dLc_rng {n : Nat} {T : Nat → Bool} {F : Nat → D} (hf : free g vs = true) (hi : it g = some (rngL 0 n)) (hl : n ≤ 100000)
    (h : ∀ i, i < n → ∃ g1, tg (.int ((i : Nat) : Int)) (wipeG g vs) = some g1 ∧ tt g1 = some (T i) ∧ (T i = true → te g1 = some (F i))) : dLc it tg tt te vs g = some (.lst (((List.range n).filter T).map F)) :=
  dLc_filt (fun i : Nat => D.int ((i : Nat) : Int)) hf (by rw [hi, rngL_map]) (by rw [List.length_range]; exact hl) fun i hi => h i (List.mem_range.mp hi)
theorem dLc_rngM {n : Nat} {F : Nat → D} (hf : free g vs = true) (hi : it g = some (rngL 0 n)) (hl : n ≤ 100000)
    (h : ∀ i, i < n → ∃ g1, tg (.int ((i : Nat) : Int)) (wipeG g vs) = some g1 ∧ te g1 = some (F i)) : dLc it tg dYes te vs g = some (.lst ((List.range n).map F)) :=
  dLc_map (fun i : Nat => D.int ((i : Nat) : Int)) hf (by rw [hi, rngL_map]) (by rw [List.length_range]; exact hl) fun i hi => h i (List.mem_range.mp hi)
end
theorem frz_wo {d : D} : (Wd.o d).frz = .v d := rfl
theorem frz_wv {d : D} : (Wd.v d).frz = .v d := rfl
theorem frz_kk {k : Option Wd} {g : Gm} : frzAll (k :: g) = k.map Wd.frz :: frzAll g := rfl
theorem wipeG_nil {g : Gm} : wipeG g [] = g := rfl
theorem wipeG_cons {g : Gm} {v : Nat} {vs : List Nat} : wipeG g (v :: vs) = (wipeG g vs).set v none := rfl
theorem fold_iL {xs : List Int} : (xs.map fun a => D.int a) = iL xs := rfl
theorem map_int {α : Type} (xs : List α) (f : α → Int) : (xs.map fun a => D.int (f a)) = iL (xs.map f) := by unfold iL; rw [List.map_map]; rfl
/-- ints of a range, some of them -/
def pickI (n : Nat) (T : Nat → Bool) : List Int := ((List.range n).filter T).map fun i => ((i : Nat) : Int)
theorem pickI_iL {n : Nat} {T : Nat → Bool} : (((List.range n).filter T).map fun i => D.int ((i : Nat) : Int)) = iL (pickI n T) := by unfold pickI; rw [map_int]
theorem pickI_asc (n : Nat) (T : Nat → Bool) : Asc n (pickI n T) := by
  refine Asc.sub ?_
  unfold pickI rngI
  have : (List.range n).map (fun i => (0 : Int) + ((i : Nat) : Int)) = (List.range n).map fun i => ((i : Nat) : Int) := List.map_congr_left fun i _ => by rw [Int.zero_add]
  rw [this]
  exact List.Sublist.map _ (List.filter_sublist)
theorem pickI_mem {n : Nat} {T : Nat → Bool} {k : Int} : k ∈ pickI n T ↔ ∃ i : Nat, k = (i : Int) ∧ i < n ∧ T i = true := by
  unfold pickI
  rw [List.mem_map]
  constructor
  · rintro ⟨i, hi, rfl⟩
    rw [List.mem_filter, List.mem_range] at hi
    exact ⟨i, rfl, hi.1, hi.2⟩
  · rintro ⟨i, rfl, h1, h2⟩
    exact ⟨i, List.mem_filter.mpr ⟨List.mem_range.mpr h1, h2⟩, rfl⟩
/-! ### and, or, chains without cases -/
def orB (k : Bool) (o : Option Bool) : Option Bool := if k then some true else o
def andB (k : Bool) (o : Option Bool) : Option Bool := if k then o else some false
def orV (k : Bool) (o : Option D) : Option D := if k then some (.bl true) else o
def andV (k : Bool) (o : Option D) : Option D := if k then o else some (.bl false)
theorem orB_s {k k' : Bool} : orB k (some k') = some (k || k') := by cases k <;> rfl
theorem orB_t {o : Option Bool} : orB true o = some true := rfl
theorem orB_f {o : Option Bool} : orB false o = o := rfl
theorem andB_s {k k' : Bool} : andB k (some k') = some (k && k') := by cases k <;> rfl
theorem andB_t {o : Option Bool} : andB true o = o := rfl
theorem andB_f {o : Option Bool} : andB false o = some false := rfl
theorem orV_s {k k' : Bool} : orV k (some (.bl k')) = some (.bl (k || k')) := by cases k <;> rfl
theorem orV_t {o : Option D} : orV true o = some (.bl true) := rfl
theorem orV_f {o : Option D} : orV false o = o := rfl
theorem andV_s {k k' : Bool} : andV k (some (.bl k')) = some (.bl (k && k')) := by cases k <;> rfl
theorem andV_t {o : Option D} : andV true o = o := rfl
theorem andV_f {o : Option D} : andV false o = some (.bl false) := rfl
theorem apOr_b {k : Bool} {u : DTF} {g : Gm} : apOr (some k) u g = orB k (u g) := by cases k <;> rfl
theorem apAnd_b {k : Bool} {u : DTF} {g : Gm} : apAnd (some k) u g = andB k (u g) := by cases k <;> rfl
theorem apOrV_b {k : Bool} {u : DF} {g : Gm} : apOrV (some (.bl k)) u g = orV k (u g) := by cases k <;> rfl
theorem apAndV_b {k : Bool} {u : DF} {g : Gm} : apAndV (some (.bl k)) u g = andV k (u g) := by cases k <;> rfl
theorem apCh_b {k : Bool} {f' : D → D → Option D} {y : D} {c : DF} {g : Gm} : apCh f' y c g (some (.bl k)) = andV k (ap2 f' (some y) (c g)) := by cases k <;> rfl
def apPkO : Option D → Option D := fun x => match x with
  | some (.lst ds) => if ds.all D.flat then some (.lst ds) else none
  | _ => none
theorem peekO_a {a : DF} {g : Gm} : peekO a g = apPkO (a (frzAll g)) := rfl
theorem apPkO_i {xs : List Int} : apPkO (some (.lst (iL xs))) = some (.lst (iL xs)) := by
  unfold apPkO iL
  exact if_pos (by rw [List.all_map]; exact List.all_eq_true.mpr fun _ _ => rfl)
end Zk
end

section
set_option Elab.async false
set_option linter.all false
set_option maxRecDepth 100000
set_option maxHeartbeats 2000000
/-! The laws' own functions on pairs: rooms, counts, held pairs, dealings. -/
namespace Zc
open PySem L2 Zk
abbrev Pr := Int × Int
def prD (x : Pr) : D := .tup [.int x.1, .int x.2]
abbrev opD : Option Pr → D := optD prD
def stD (s : Int × Pr) : D := .tup [.int s.1, prD s.2]
def prP (x : Pr) : PyData := .tuple [.int x.1, .int x.2]
abbrev opP : Option Pr → PyData := optP prP
theorem encPr : Enc prD prP 2 := encInt.two encInt
theorem encOp : Enc opD opP 3 := encPr.opt (fun a => by simp [prP, PyData.eqv]) (fun a => by simp [prP, PyData.eqv])
theorem encSt : Enc stD (fun s => .tuple [.int s.1, prP s.2]) 3 := (encInt.mono (by decide)).two encPr
theorem eq_op_op (a b : Option Pr) : eqD (opD a) (opD b) = some (.bl (decide (a = b))) := encOp.eqD (by decide) a b
theorem eq_op_pr (a : Option Pr) (q : Pr) : eqD (opD a) (prD q) = some (.bl (decide (a = some q))) := encOp.eqD (by decide) a (some q)
theorem eq_pr_op (a : Option Pr) (q : Pr) : eqD (prD q) (opD a) = some (.bl (decide (some q = a))) := encOp.eqD (by decide) (some q) a
theorem eq_pr_pr (p q : Pr) : eqD (prD p) (prD q) = some (.bl (decide (p = q))) := encPr.eqD (by decide) p q
theorem ne_op_op (a b : Option Pr) : neD (opD a) (opD b) = some (.bl (!decide (a = b))) := encOp.neD (by decide) a b
theorem ne_op_pr (a : Option Pr) (q : Pr) : neD (opD a) (prD q) = some (.bl (!decide (a = some q))) := encOp.neD (by decide) a (some q)
theorem ne_pr_op (a : Option Pr) (q : Pr) : neD (prD q) (opD a) = some (.bl (!decide (some q = a))) := encOp.neD (by decide) (some q) a
theorem ne_pr_pr (p q : Pr) : neD (prD p) (prD q) = some (.bl (!decide (p = q))) := encPr.neD (by decide) p q
theorem isnt_op (o : Option Pr) : isntD (opD o) .non = some (.bl (!decide (o = none))) := by cases o <;> rfl
theorem is_op (o : Option Pr) : isD (opD o) .non = some (.bl (decide (o = none))) := by cases o <;> rfl
theorem prD_eq (a b : Int) : D.tup [.int a, .int b] = prD (a, b) := rfl
theorem pr_0 (q : Pr) : ixD (prD q) (.int 0) = some (.int q.1) := rfl
theorem pr_1 (q : Pr) : ixD (prD q) (.int 1) = some (.int q.2) := rfl
theorem st_0 (s : Int × Pr) : ixD (stD s) (.int 0) = some (.int s.1) := rfl
theorem st_1 (s : Int × Pr) : ixD (stD s) (.int 1) = some (prD s.2) := rfl
theorem inP_pr (q : Pr) (xs : List Pr) : inPD (prD q) (.lst (xs.map prD)) = some (.bl (decide (q ∈ xs))) := encPr.inL (by decide) q xs
theorem ninP_pr (q : Pr) (xs : List Pr) : ninPD (prD q) (.lst (xs.map prD)) = some (.bl (!decide (q ∈ xs))) := encPr.ninL (by decide) q xs
theorem nin_l {ns : List Int} {k : Int} : ninD (.int k) (.lst (iL ns)) = some (.bl (!ns.contains k)) := by
  show (if ((D.int k).flat4 && (iL ns).all D.flat4) = true then some ((iL ns).any fun z => eqF z (.int k)) else none).map (fun b => D.bl (!b)) = _
  rw [flat4_iL, any_iL]
  rfl
theorem isi_prt (q : Pr) : isiD [prD q, .ty "tuple"] = some (.bl true) := rfl
theorem len_pr (q : Pr) : lenD [prD q] = some (.int 2) := rfl
theorem op_some (q : Pr) : opD (some q) = prD q := rfl
def roomOf (caps : List Int) (q : Pr) : Int := if Zc.capAt caps q.2 < Zc.capAt caps q.1 then Zc.capAt caps q.2 else Zc.capAt caps q.1
def InR (caps : List Int) (q : Pr) : Prop := (0 ≤ q.1 ∧ q.1 < (caps.length : Nat)) ∧ (0 ≤ q.2 ∧ q.2 < (caps.length : Nat))
/-- the pairs of a row that have room -/
def heldP (caps : List Int) : List Int → List Pr
  | [] => []
  | a :: r => ((r.filter fun b => decide (0 < roomOf caps (a, b))).map fun b => (a, b)) ++ heldP caps r
theorem heldP_mem {caps : List Int} {n : Nat} : ∀ {h : List Int}, Asc n h → ∀ q : Pr, q ∈ heldP caps h ↔ q.1 ∈ h ∧ q.2 ∈ h ∧ q.1 < q.2 ∧ 0 < roomOf caps q
  | [], _, q => by simp [heldP]
  | a :: r, ha, q => by
    obtain ⟨x, y⟩ := q
    have h2 := List.pairwise_cons.mp ha.1
    have ih := heldP_mem (caps := caps) (n := n) (h := r) ⟨h2.2, fun k hk => ha.2 k (List.mem_cons_of_mem _ hk)⟩ (x, y)
    unfold heldP
    rw [List.mem_append, ih, List.mem_map]
    simp only [List.mem_filter, decide_eq_true_eq, List.mem_cons, Prod.mk.injEq]
    constructor
    · rintro (⟨b, ⟨hb, hp⟩, rfl, rfl⟩ | ⟨h1, h3, h4, h5⟩)
      · exact ⟨.inl rfl, .inr hb, h2.1 _ hb, hp⟩
      · exact ⟨.inr h1, .inr h3, h4, h5⟩
    · rintro ⟨h1 | h1, h3 | h3, h4, h5⟩
      · subst h1; subst h3; omega
      · subst h1; exact .inl ⟨y, ⟨h3, h5⟩, rfl, rfl⟩
      · subst h3; have := h2.1 x h1; omega
      · exact .inr ⟨h1, h3, h4, h5⟩
theorem heldP_len (caps : List Int) : ∀ h : List Int, (heldP caps h).length ≤ h.length * h.length
  | [] => Nat.le_refl _
  | a :: r => by
    have ih := heldP_len caps r
    have h2 := List.length_filter_le (fun b => decide (0 < roomOf caps (a, b))) r
    unfold heldP
    rw [List.length_append, List.length_map, List.length_cons]
    have : (r.length + 1) * (r.length + 1) = r.length * r.length + r.length + r.length + 1 := by rw [Nat.add_mul, Nat.mul_add]; omega
    omega
theorem held_in {caps h : List Int} (ha : Asc caps.length h) {q : Pr} (hq : q ∈ heldP caps h) : InR caps q := by
  have e := (heldP_mem ha q).mp hq
  exact ⟨ha.2 _ e.1, ha.2 _ e.2.1⟩
end Zc
end

section
set_option Elab.async false
set_option linter.all false
set_option maxRecDepth 100000
set_option maxHeartbeats 2000000
/-! Dealings, as the laws judge them. -/
namespace Zc
open PySem L2 Zk
/-- a row lies below another by its pieces -/
structure IsDeal (caps : List Int) (hs : List (List Int)) (dl : List (Option Pr)) : Prop where
  len : dl.length = hs.length
  held : ∀ (p : Nat) (q : Pr), dl[p]? = some (some q) → q.1 < q.2 ∧ q.1 ∈ at_ hs p ∧ q.2 ∈ at_ hs p
  room : ∀ q : Pr, some q ∈ dl → ((dl.count (some q) : Nat) : Int) ≤ roomOf caps q
end Zc
end

section
set_option Elab.async false
set_option linter.all false
set_option maxRecDepth 100000
set_option maxHeartbeats 2000000
/-! Changing what is laid out; dealings and pools that the laws draw. -/
namespace Zc
open PySem L2 Zk
theorem setI_at {α : Type} {f : α → D} {a : α} {xs : List α} {k : Int} {i : Nat} {g : Gm} {d : D} (e : d = f a) (h0 : 0 ≤ k) (h : k < (xs.length : Nat)) :
    apSetI (some d) (some (.int k)) (some (.lst (xs.map f))) i g = some (.nx (g.set i (some (.o (.lst ((xs.set k.toNat a).map f)))))) := by
  have e1 := apSetI_some (d := d) (ds := xs.map f) (i := i) (g := g) (j := k.toNat) (by rw [List.length_map]; omega)
  rw [show ((k.toNat : Nat) : Int) = k by omega] at e1
  rw [e1, e, List.map_set]
section
variable {k x : Int} {i : Nat} {g : Gm} {q : Pr} {o : Option Pr}
theorem setI_i {xs : List Int} (h0 : 0 ≤ k) (h : k < (xs.length : Nat)) : apSetI (some (.int x)) (some (.int k)) (some (.lst (iL xs))) i g = some (.nx (g.set i (some (.o (.lst (iL (xs.set k.toNat x))))))) := setI_at (f := D.int) rfl h0 h
theorem setI_p {xs : List (Option Pr)} (h0 : 0 ≤ k) (h : k < (xs.length : Nat)) : apSetI (some (prD q)) (some (.int k)) (some (.lst (xs.map opD))) i g = some (.nx (g.set i (some (.o (.lst ((xs.set k.toNat (some q)).map opD)))))) := setI_at (f := opD) rfl h0 h
theorem setI_o {xs : List (Option Pr)} (h0 : 0 ≤ k) (h : k < (xs.length : Nat)) : apSetI (some (opD o)) (some (.int k)) (some (.lst (xs.map opD))) i g = some (.nx (g.set i (some (.o (.lst ((xs.set k.toNat o).map opD)))))) := setI_at (f := opD) rfl h0 h
theorem setI_n {xs : List (Option Pr)} (h0 : 0 ≤ k) (h : k < (xs.length : Nat)) : apSetI (some .non) (some (.int k)) (some (.lst (xs.map opD))) i g = some (.nx (g.set i (some (.o (.lst ((xs.set k.toNat none).map opD)))))) := setI_at (f := opD) (a := none) rfl h0 h
theorem snoc_i {xs : List Int} : iL xs ++ [D.int x] = iL (xs ++ [x]) := by unfold iL; rw [List.map_append]; rfl
theorem snoc_r {hs : List (List Int)} {h : List Int} : rowsL hs ++ [.lst (iL h)] = rowsL (hs ++ [h]) := rowsL_snoc
theorem snoc_p {xs : List (Option Pr)} : xs.map opD ++ [prD q] = (xs ++ [some q]).map opD := by rw [List.map_append]; rfl
theorem snoc_n {xs : List (Option Pr)} : xs.map opD ++ [D.non] = (xs ++ [none]).map opD := by rw [List.map_append]; rfl
theorem snoc_o {xs : List (Option Pr)} : xs.map opD ++ [opD o] = (xs ++ [o]).map opD := by rw [List.map_append]; rfl
theorem snoc_pp {xs : List Pr} : xs.map prD ++ [prD q] = (xs ++ [q]).map prD := by rw [List.map_append]; rfl
theorem snoc_s {xs : List (Int × Pr)} : xs.map stD ++ [D.tup [.int x, prD q]] = (xs ++ [(x, q)]).map stD := by rw [List.map_append]; rfl
theorem eq_ol {xs ys : List (Option Pr)} : eqD (.lst (xs.map opD)) (.lst (ys.map opD)) = some (.bl (decide (xs = ys))) := encOp.lst.eqD (by decide) xs ys
theorem ne_ol {xs ys : List (Option Pr)} : neD (.lst (xs.map opD)) (.lst (ys.map opD)) = some (.bl (!decide (xs = ys))) := encOp.lst.neD (by decide) xs ys
theorem eq_pl {xs ys : List Pr} : eqD (.lst (xs.map prD)) (.lst (ys.map prD)) = some (.bl (decide (xs = ys))) := encPr.lst.eqD (by decide) xs ys
theorem ne_pl {xs ys : List Pr} : neD (.lst (xs.map prD)) (.lst (ys.map prD)) = some (.bl (!decide (xs = ys))) := encPr.lst.neD (by decide) xs ys
theorem eq_sl {xs ys : List (Int × Pr)} : eqD (.lst (xs.map stD)) (.lst (ys.map stD)) = some (.bl (decide (xs = ys))) := encSt.lst.eqD (by decide) xs ys
theorem ne_sl {xs ys : List (Int × Pr)} : neD (.lst (xs.map stD)) (.lst (ys.map stD)) = some (.bl (!decide (xs = ys))) := encSt.lst.neD (by decide) xs ys
theorem eq_il {xs ys : List Int} : eqD (.lst (iL xs)) (.lst (iL ys)) = some (.bl (decide (xs = ys))) := encInt.lst.eqD (by decide) xs ys
theorem ne_il {xs ys : List Int} : neD (.lst (iL xs)) (.lst (iL ys)) = some (.bl (!decide (xs = ys))) := encInt.lst.neD (by decide) xs ys
theorem eq_rl {xs ys : List (List Int)} : eqD (.lst (rowsL xs)) (.lst (rowsL ys)) = some (.bl (decide (xs = ys))) := encInt.lst.lst.eqD (by decide) xs ys
theorem ne_rl {xs ys : List (List Int)} : neD (.lst (rowsL xs)) (.lst (rowsL ys)) = some (.bl (!decide (xs = ys))) := encInt.lst.lst.neD (by decide) xs ys
theorem eq_il1 {xs : List Int} : eqD (.lst (iL xs)) (.lst [.int x]) = some (.bl (decide (xs = [x]))) := eq_il (ys := [x])
theorem isi_bb {b : Bool} : isiD [.bl b, .ty "bool"] = some (.bl true) := rfl
theorem eq_bb {a b : Bool} : eqD (.bl a) (.bl b) = some (.bl (a == b)) := rfl
theorem ne_bb {a b : Bool} : neD (.bl a) (.bl b) = some (.bl (!(a == b))) := rfl
end
/-! ### rich pools -/
/-! ### pools with many seats -/
theorem snoc_get {α : Type} {xs : List α} {x y : α} {p : Nat} (h : (xs ++ [x])[p]? = some y) : xs[p]? = some y ∨ (p = xs.length ∧ y = x) := by
  by_cases hp : p < xs.length
  · rw [List.getElem?_append_left hp] at h; exact .inl h
  · rw [List.getElem?_append_right (by omega)] at h
    by_cases h0 : p - xs.length = 0
    · rw [h0] at h
      cases h
      exact .inr ⟨by omega, rfl⟩
    · rw [List.getElem?_eq_none (by simp; omega)] at h; cases h
end Zc
end

section
set_option Elab.async false
set_option linter.all false
set_option maxRecDepth 100000
set_option maxHeartbeats 2000000
/-! Walks as the laws count them, taken. -/
namespace Zc
open PySem L2 Zk
abbrev Steps := List (Int × Pr)
def StepOk (caps : List Int) (hs : List (List Int)) (dl : List (Option Pr)) (l : Option Pr) (u : List Int) (s : Int × Pr) : Prop :=
  (0 ≤ s.1 ∧ s.1 < (hs.length : Nat)) ∧ s.1 ∉ u ∧ dl[s.1.toNat]? = some l ∧ s.2 ∈ heldP caps (hs[s.1.toNat]?.getD []) ∧ some s.2 ≠ l
instance {caps : List Int} {hs : List (List Int)} {dl : List (Option Pr)} {l : Option Pr} {u : List Int} {s : Int × Pr} : Decidable (StepOk caps hs dl l u s) := by unfold StepOk; exact inferInstance
def walkB (caps : List Int) (hs : List (List Int)) (dl : List (Option Pr)) : Option Pr → List Int → Steps → Option (Option Pr)
  | l, _, [] => some l
  | l, u, s :: r => if StepOk caps hs dl l u s then walkB caps hs dl (some s.2) (u ++ [s.1]) r else none
def dueB (caps : List Int) (hs : List (List Int)) (dl : List (Option Pr)) (sts : Steps) : Bool := match walkB caps hs dl none [] sts with
  | some (some q) => decide (((dl.count (some q) : Nat) : Int) < roomOf caps q)
  | _ => false
structure DealOk (caps : List Int) (hs : List (List Int)) (dl : List (Option Pr)) : Prop where
  len : dl.length = hs.length
  held : ∀ (p : Nat) (q : Pr), dl[p]? = some (some q) → ∃ h, hs[p]? = some h ∧ q ∈ heldP caps h
  room : ∀ q : Pr, dl.count (some q) = 0 ∨ ((dl.count (some q) : Nat) : Int) ≤ roomOf caps q
theorem walkB_no {caps : List Int} {hs : List (List Int)} {dl : List (Option Pr)} {l : Option Pr} {u : List Int} {s : Int × Pr} {r : Steps} (h : ¬ StepOk caps hs dl l u s) : walkB caps hs dl l u (s :: r) = none := if_neg h
theorem walkB_yes {caps : List Int} {hs : List (List Int)} {dl : List (Option Pr)} {l : Option Pr} {u : List Int} {s : Int × Pr} {r : Steps} (h : StepOk caps hs dl l u s) : walkB caps hs dl l u (s :: r) = walkB caps hs dl (some s.2) (u ++ [s.1]) r := if_pos h
theorem walkB_mem {caps : List Int} {hs : List (List Int)} {dl : List (Option Pr)} : ∀ {sts : Steps} {l : Option Pr} {u : List Int} {r : Option Pr}, walkB caps hs dl l u sts = some r →
    ∀ s ∈ sts, ∃ (p : Nat) (h : List Int), s.1 = (p : Int) ∧ hs[p]? = some h ∧ s.2 ∈ heldP caps h
  | [], _, _, _, _, s, hs' => by cases hs'
  | t :: sts, l, u, r, hw, s, hs' => by
    by_cases h : StepOk caps hs dl l u t
    · rw [walkB_yes h] at hw
      rcases List.mem_cons.mp hs' with rfl | z
      · obtain ⟨⟨a1, a2⟩, a3, a4, a5, a6⟩ := h
        refine ⟨s.1.toNat, hs[s.1.toNat]'(by omega), by omega, List.getElem?_eq_getElem (by omega), ?_⟩
        rw [List.getElem?_eq_getElem (by omega)] at a5
        exact a5
      · exact walkB_mem hw s z
    · rw [walkB_no h] at hw; cases hw
def putAll (dl : List (Option Pr)) (sts : Steps) : List (Option Pr) := sts.foldl (fun d s => d.set s.1.toNat (some s.2)) dl
theorem putAll_cons {dl : List (Option Pr)} {s : Int × Pr} {r : Steps} : putAll dl (s :: r) = putAll (dl.set s.1.toNat (some s.2)) r := rfl
theorem putAll_len : ∀ (sts : Steps) (dl : List (Option Pr)), (putAll dl sts).length = dl.length
  | [], _ => rfl
  | s :: r, dl => by rw [putAll_cons, putAll_len r, List.length_set]
def one (a b : Option Pr) : Nat := if a = b then 1 else 0
theorem count_put {dl : List (Option Pr)} {p : Nat} {l : Option Pr} (h : dl[p]? = some l) (a b : Option Pr) : (dl.set p a).count b + one l b = dl.count b + one a b := by
  obtain ⟨hp, e⟩ := List.getElem?_eq_some_iff.mp h
  rw [List.count_set hp, e]
  have hc : one l b ≤ dl.count b := by
    unfold one
    split
    · rename_i z
      rw [← z]
      exact List.count_pos_iff.mpr (List.mem_of_getElem? h)
    · omega
  unfold one at hc ⊢
  simp only [beq_iff_eq]
  split <;> split <;> rename_i z1 z2 <;> simp only [z1, z2, if_true, if_false] at * <;> omega
section
variable {caps : List Int} {hs : List (List Int)} {dl : List (Option Pr)}
theorem walk_count (q : Option Pr) : ∀ {sts : Steps} {l : Option Pr} {u : List Int} {r : Option Pr} {cd : List (Option Pr)}, walkB caps hs dl l u sts = some r → (∀ p : Nat, (p : Int) ∉ u → cd[p]? = dl[p]?) →
    (putAll cd sts).count q + one l q = cd.count q + one r q
  | [], l, u, r, cd, hw, _ => by cases hw; rfl
  | s :: sts, l, u, r, cd, hw, hcd => by
    by_cases h : StepOk caps hs dl l u s
    · rw [walkB_yes h] at hw
      have hp : (s.1.toNat : Int) = s.1 := by have := h.1.1; omega
      have e : cd[s.1.toNat]? = some l := by rw [hcd _ (by rw [hp]; exact h.2.1)]; exact h.2.2.1
      have c := count_put e (some s.2) q
      have ih := walk_count q (cd := cd.set s.1.toNat (some s.2)) hw fun p hpu => by
        have hne : p ≠ s.1.toNat := fun z => hpu (by rw [z, hp]; simp)
        rw [List.getElem?_set_ne (Ne.symm hne)]
        exact hcd p fun z => hpu (List.mem_append_left _ z)
      rw [putAll_cons]
      omega
    · rw [walkB_no h] at hw; cases hw
theorem walk_held : ∀ {sts : Steps} {l : Option Pr} {u : List Int} {r : Option Pr} {cd : List (Option Pr)}, walkB caps hs dl l u sts = some r → (∀ (p : Nat) (q : Pr), cd[p]? = some (some q) → ∃ h, hs[p]? = some h ∧ q ∈ heldP caps h) →
    ∀ (p : Nat) (q : Pr), (putAll cd sts)[p]? = some (some q) → ∃ h, hs[p]? = some h ∧ q ∈ heldP caps h
  | [], _, _, _, _, _, hc => hc
  | s :: sts, l, u, r, cd, hw, hc => by
    have hm := walkB_mem hw s List.mem_cons_self
    by_cases h : StepOk caps hs dl l u s
    · rw [walkB_yes h] at hw
      rw [putAll_cons]
      refine walk_held hw fun p q e => ?_
      rw [List.getElem?_set] at e
      split at e
      · rename_i hp
        split at e
        · cases e
          obtain ⟨p', h', e1, e2, e3⟩ := hm
          exact ⟨h', by rw [← hp, show s.1.toNat = p' by omega]; exact e2, e3⟩
        · cases e
      · exact hc p q e
    · rw [walkB_no h] at hw; cases hw
/-- where the pieces of a walk stood -/
theorem walk_stood : ∀ {sts : Steps} {l : Option Pr} {u : List Int} {r : Option Pr}, walkB caps hs dl l u sts = some r → ∀ s ∈ sts, dl[s.1.toNat]? ≠ some none ∨ (l = none ∧ sts.head? = some s)
  | [], _, _, _, _, s, h => by cases h
  | t :: sts, l, u, r, hw, s, hs' => by
    by_cases h : StepOk caps hs dl l u t
    · rw [walkB_yes h] at hw
      rcases List.mem_cons.mp hs' with rfl | z
      · cases l with
        | none => exact .inr ⟨rfl, rfl⟩
        | some q => exact .inl (by rw [h.2.2.1]; simp)
      · rcases walk_stood hw s z with y | y
        · exact .inl y
        · exact absurd y.1 (by simp)
    · rw [walkB_no h] at hw; cases hw
theorem putAll_get : ∀ (sts : Steps) (cd : List (Option Pr)) (i : Nat), (∀ s ∈ sts, 0 ≤ s.1 ∧ s.1 < (cd.length : Nat)) → ((i : Int) ∈ sts.map (·.1) → ∃ q, (putAll cd sts)[i]? = some (some q)) ∧ ((i : Int) ∉ sts.map (·.1) → (putAll cd sts)[i]? = cd[i]?)
  | [], cd, i, _ => ⟨fun h => absurd h (by simp), fun _ => rfl⟩
  | s :: sts, cd, i, hr => by
    have h0 := hr s List.mem_cons_self
    have ih := putAll_get sts (cd.set s.1.toNat (some s.2)) i fun t ht => by rw [List.length_set]; exact hr t (List.mem_cons_of_mem _ ht)
    rw [putAll_cons]
    by_cases h : (i : Int) ∈ sts.map (·.1)
    · exact ⟨fun _ => ih.1 h, fun z => absurd (List.mem_cons_of_mem _ h) z⟩
    · rw [ih.2 h]
      refine ⟨fun z => ?_, fun z => ?_⟩
      · rcases List.mem_cons.mp z with y | y
        · have y' : (i : Int) = s.1 := y
          exact ⟨s.2, by rw [show s.1.toNat = i by omega]; exact List.getElem?_set_self (by omega)⟩
        · exact absurd y h
      · have hne : s.1.toNat ≠ i := fun y => z (by rw [List.map_cons]; exact List.mem_cons.mpr (.inl (by omega)))
        exact List.getElem?_set_ne hne
end
theorem filter_one {n p : Nat} (hp : p < n) {T : Nat → Bool} (h : ∀ i, i < n → (T i = true ↔ i = p)) : (List.range n).filter T = [p] := by
  induction n with
  | zero => omega
  | succ n ih =>
    rw [List.range_succ, List.filter_append]
    by_cases hn : n = p
    · have e1 : (List.range n).filter T = [] := List.filter_eq_nil_iff.mpr fun i hi => by
        rw [List.mem_range] at hi
        rw [h i (by omega)]
        omega
      rw [e1, List.filter_cons, if_pos ((h n (by omega)).mpr hn), hn]
      rfl
    · rw [ih (by omega) fun i hi => h i (by omega), List.filter_cons, if_neg (by rw [h n (by omega)]; exact hn)]
      rfl
theorem taken_ok {caps : List Int} {hs : List (List Int)} {dl : List (Option Pr)} (dk : DealOk caps hs dl) {sts : Steps} (hd : dueB caps hs dl sts = true) : DealOk caps hs (putAll dl sts) := by
  unfold dueB at hd
  split at hd
  · rename_i q hw
    have hlt := of_decide_eq_true hd
    refine ⟨by rw [putAll_len]; exact dk.len, walk_held hw dk.held, fun q' => ?_⟩
    have c := walk_count (some q') hw (cd := dl) fun p _ => rfl
    have e0 : one none (some q') = 0 := rfl
    rw [e0] at c
    by_cases hq : q = q'
    · subst hq
      have e1 : one (some q) (some q) = 1 := if_pos rfl
      rw [e1] at c
      exact .inr (by omega)
    · have e1 : one (some q) (some q') = 0 := if_neg (by simp [hq])
      rw [e1] at c
      rw [show (putAll dl sts).count (some q') = dl.count (some q') by omega]
      exact dk.room q'
  · cases hd
theorem DealOk.of {caps : List Int} {hs : List (List Int)} {m : Nat} (ok : PoolOk caps hs m) {dl : List (Option Pr)} (d : IsDeal caps hs dl) (hr : ∀ q, some q ∈ dl → 0 < roomOf caps q) : DealOk caps hs dl where
  len := d.len
  held p q e := by
    have hp : p < hs.length := by rw [← d.len]; exact (List.getElem?_eq_some_iff.mp e).1
    have h1 := d.held p q e
    have e2 : hs[p]? = some (at_ hs p) := by have := at_get (xs := hs) (k := (p : Int)) (by omega) (by omega); rw [Int.toNat_natCast] at this; exact this
    exact ⟨_, e2, (heldP_mem (ok.asc _ (List.mem_of_getElem? e2)) q).mpr ⟨h1.2.1, h1.2.2, h1.1, hr q (List.mem_of_getElem? e)⟩⟩
  room q := by
    by_cases h : some q ∈ dl
    · exact .inr (d.room q h)
    · exact .inl (List.count_eq_zero.mpr h)
theorem putAll_snoc {dl : List (Option Pr)} {sts : Steps} {s : Int × Pr} : putAll dl (sts ++ [s]) = (putAll dl sts).set s.1.toNat (some s.2) := by unfold putAll; rw [List.foldl_append]; rfl
theorem take_succ {α : Type} {xs : List α} {i : Nat} {a : α} (h : xs[i]? = some a) : xs.take (i + 1) = xs.take i ++ [a] := by rw [List.take_add_one, h]; rfl
end Zc
end

section
set_option Elab.async false
set_option linter.all false
set_option maxRecDepth 100000
set_option maxHeartbeats 2000000
/-! The search for a walk: its tree, its waiting list, what stands when it fails. -/
namespace Zc
open PySem L2 Zk
/-! ### while -/
theorem while_go {t : DTF} {s : SF} (R : Wd → Prop) (N : Nat) (I : Nat → Gm → Prop) (hs : ∀ i g, I i g → ∃ b, t g = some b ∧ (b = true → i < N ∧ Turn (s g) (I (i + 1)) R (fun _ => False))) :
    ∀ (n i : Nat) (g : Gm), I i g → i ≤ N → N < i + n → (∃ j g', whileD t s n g = some (.nx g') ∧ I j g' ∧ t g' = some false) ∨ ∃ w, whileD t s n g = some (.rt w) ∧ R w
  | 0, i, g, h, h1, h2 => by omega
  | n + 1, i, g, h, h1, h2 => by
    obtain ⟨b, e, hb⟩ := hs i g h
    unfold whileD
    rw [e, Option.bind_some]
    cases b with
    | false => exact .inl ⟨i, g, rfl, h, e⟩
    | true =>
      rw [if_pos rfl]
      obtain ⟨hi, T⟩ := hb rfl
      rcases T with ⟨g2, e2 | e2, h3⟩ | ⟨w, e2, h3⟩ | ⟨g2, e2, h3⟩
      · rw [e2, Option.bind_some]; exact while_go R N I hs n (i + 1) g2 h3 hi (by omega)
      · rw [e2, Option.bind_some]; exact while_go R N I hs n (i + 1) g2 h3 hi (by omega)
      · rw [e2, Option.bind_some]; exact .inr ⟨w, rfl, h3⟩
      · exact h3.elim
theorem while_then {t : DTF} {s q : SF} {C : Option Out → Prop} (R : Wd → Prop) (N : Nat) (I : Nat → Gm → Prop) {g : Gm} (h0 : I 0 g) (hN : N < 1000000)
    (hs : ∀ i g, I i g → ∃ b, t g = some b ∧ (b = true → i < N ∧ Turn (s g) (I (i + 1)) R (fun _ => False)))
    (k : ∀ i g, I i g → t g = some false → C (q g)) (kr : ∀ w, R w → C (some (.rt w))) : C (apSeq (sWhile t s g) q) := by
  rcases while_go R N I hs 1000000 0 g h0 (Nat.zero_le _) (by omega) with ⟨j, g', e, h1, h2⟩ | ⟨w, e, h⟩
  · unfold sWhile; rw [e]; exact k j g' h1 h2
  · unfold sWhile; rw [e]; exact kr w h
/-! ### keys -/
def prK (q : Pr) : List Key := [.inl q.1, .inl q.2]
theorem prK_eq {q r : Pr} : prK q = prK r ↔ q = r := ⟨fun h => by
  unfold prK at h
  injection h with h1 h2
  injection h1 with h1
  injection h2 with h2 h3
  injection h2 with h2
  exact Prod.ext h1 h2, fun h => by rw [h]⟩
abbrev Tk := List (Pr × Int)
def tkD (tk : Tk) : List (List Key × D) := tk.map fun e => (prK e.1, D.int e.2)
theorem getK_tk (q : Pr) : ∀ tk : Tk, getK (tkD tk) (prK q) = (tk.find? fun e => decide (e.1 = q)).map fun e => D.int e.2
  | [] => rfl
  | e :: tk => by
    have ih := getK_tk q tk
    unfold getK tkD at ih ⊢
    rw [List.map_cons, List.find?_cons, List.find?_cons]
    by_cases h : e.1 = q
    · rw [decide_eq_true (show (prK e.1, D.int e.2).1 = prK q by rw [h]), decide_eq_true h]; rfl
    · rw [decide_eq_false (show ¬ (prK e.1, D.int e.2).1 = prK q from fun z => h (prK_eq.mp z)), decide_eq_false h]; exact ih
def keys (tk : Tk) : List Pr := tk.map (·.1)
theorem getK_in (q : Pr) (tk : Tk) : (getK (tkD tk) (prK q)).isSome = decide (q ∈ keys tk) := by
  rw [getK_tk, Option.isSome_map, Bool.eq_iff_iff, decide_eq_true_iff, List.find?_isSome]
  exact ⟨fun ⟨e, h1, h2⟩ => List.mem_map.mpr ⟨e, h1, of_decide_eq_true h2⟩, fun h => let ⟨e, h1, h2⟩ := List.mem_map.mp h; ⟨e, h1, decide_eq_true h2⟩⟩
theorem keys_get {tk : Tk} {j : Nat} {q : Pr} {p : Int} (h : tk[j]? = some (q, p)) : (keys tk)[j]? = some q := by unfold keys; rw [List.getElem?_map, h]; rfl
theorem keys_inj {tk : Tk} (n : (keys tk).Nodup) {j l : Nat} {q : Pr} {p p' : Int} (h : tk[j]? = some (q, p)) (h' : tk[l]? = some (q, p')) : j = l :=
  (List.getElem?_inj (List.getElem?_eq_some_iff.mp (keys_get h)).1 n).mp ((keys_get h).trans (keys_get h').symm)
theorem getK_at {tk : Tk} (n : (keys tk).Nodup) {j : Nat} {q : Pr} {p : Int} (h : tk[j]? = some (q, p)) : getK (tkD tk) (prK q) = some (.int p) := by
  rw [getK_tk]
  have h1 : q ∈ keys tk := List.mem_of_getElem? (keys_get h)
  cases e : tk.find? fun e => decide (e.1 = q) with
  | none =>
    have := List.find?_eq_none.mp e _ (List.mem_of_getElem? h)
    exact absurd (decide_eq_true rfl) this
  | some x =>
    have e1 : x.1 = q := of_decide_eq_true (List.find?_some (p := fun e : Pr × Int => decide (e.1 = q)) e)
    obtain ⟨l, hl⟩ := List.mem_iff_getElem?.mp (List.mem_of_find?_eq_some e)
    obtain ⟨x1, x2⟩ := x
    cases e1
    have := keys_inj n h hl
    subst this
    rw [h] at hl
    cases hl
    rfl
theorem setK_tk {tk : Tk} {q : Pr} (p : Int) (h : q ∉ keys tk) : setK (tkD tk) (prK q) (.int p) = tkD (tk ++ [(q, p)]) := by
  unfold setK
  rw [if_neg]
  · unfold tkD; rw [List.map_append]; rfl
  · intro z
    obtain ⟨x, h1, h2⟩ := List.any_eq_true.mp z
    unfold tkD at h1
    obtain ⟨e, h3, rfl⟩ := List.mem_map.mp h1
    exact h (List.mem_map.mpr ⟨e, h3, prK_eq.mp (of_decide_eq_true h2)⟩)
/-! ### who sits where -/
def seatsOf : Nat → List (Option Pr) → Pr → List Int
  | _, [], _ => []
  | n, o :: r, q => if o = some q then (n : Int) :: seatsOf (n + 1) r q else seatsOf (n + 1) r q
theorem seatsOf_cons (n : Nat) (o : Option Pr) (r : List (Option Pr)) (q : Pr) : seatsOf n (o :: r) q = if o = some q then (n : Int) :: seatsOf (n + 1) r q else seatsOf (n + 1) r q := rfl
theorem seatsOf_mem {q : Pr} {x : Int} : ∀ {dl : List (Option Pr)} {n : Nat}, x ∈ seatsOf n dl q ↔ ∃ p : Nat, x = ((n + p : Nat) : Int) ∧ dl[p]? = some (some q)
  | [], n => by unfold seatsOf; simp
  | o :: r, n => by
    have ih := seatsOf_mem (q := q) (x := x) (dl := r) (n := n + 1)
    have key : (∃ p : Nat, x = ((n + p : Nat) : Int) ∧ (o :: r)[p]? = some (some q)) ↔ (x = (n : Int) ∧ o = some q) ∨ ∃ p : Nat, x = ((n + 1 + p : Nat) : Int) ∧ r[p]? = some (some q) := by
      constructor
      · rintro ⟨p, h1, h2⟩
        cases p with
        | zero => exact .inl ⟨by simpa using h1, by simpa using h2⟩
        | succ p => exact .inr ⟨p, by rw [h1]; congr 1; omega, by simpa using h2⟩
      · rintro (⟨h1, h2⟩ | ⟨p, h1, h2⟩)
        · exact ⟨0, by simpa using h1, by simpa using h2⟩
        · exact ⟨p + 1, by rw [h1]; congr 1; omega, by simpa using h2⟩
    rw [key, ← ih, seatsOf_cons]
    split
    · rename_i h
      rw [List.mem_cons]
      simp [h]
    · rename_i h
      simp [h]
theorem seatsOf_len (q : Pr) : ∀ (dl : List (Option Pr)) (n : Nat), (seatsOf n dl q).length = dl.count (some q)
  | [], _ => rfl
  | o :: r, n => by
    rw [List.count_cons, seatsOf_cons]
    split
    · rename_i h
      rw [List.length_cons, seatsOf_len q r, h]; simp
    · rename_i h
      rw [seatsOf_len q r]
      have : (o == some q) = false := by rw [beq_eq_false_iff_ne]; exact h
      rw [this]; simp
theorem seatsOf_nodup (q : Pr) : ∀ (dl : List (Option Pr)) (n : Nat), (seatsOf n dl q).Nodup
  | [], _ => List.nodup_nil
  | o :: r, n => by
    unfold seatsOf
    split
    · refine List.nodup_cons.mpr ⟨fun h => ?_, seatsOf_nodup q r (n + 1)⟩
      obtain ⟨p, h1, _⟩ := seatsOf_mem.mp h
      omega
    · exact seatsOf_nodup q r (n + 1)
def look (kvs : SeatL) (k : List Key) : List Int := ((kvs.find? fun kv => decide (kv.1 = k)).map (·.2)).getD []
theorem look_cons (kv : List Key × List Int) (kvs : SeatL) (k : List Key) : look (kv :: kvs) k = if kv.1 = k then kv.2 else look kvs k := by
  unfold look
  rw [List.find?_cons]
  by_cases h : kv.1 = k
  · rw [decide_eq_true h, if_pos h]; rfl
  · rw [decide_eq_false h, if_neg h]
theorem look_more (k k' : List Key) (i : Int) : ∀ kvs : SeatL, k ∈ kvs.map (·.1) → look (kvs.map fun kv => if kv.1 = k then (kv.1, kv.2 ++ [i]) else kv) k' = if k' = k then look kvs k ++ [i] else look kvs k'
  | [], h => by cases h
  | kv :: kvs, h => by
    rw [List.map_cons, look_cons, look_cons, look_cons]
    by_cases h1 : kv.1 = k
    · rw [if_pos h1, if_pos h1]
      by_cases h2 : k' = k
      · rw [if_pos (show (kv.1, kv.2 ++ [i]).1 = k' by rw [h2]; exact h1), if_pos h2]
      · rw [if_neg (show ¬ (kv.1, kv.2 ++ [i]).1 = k' from fun z => h2 (z.symm.trans h1)), if_neg h2, if_neg (fun z => h2 (z.symm.trans h1))]
        by_cases h3 : k ∈ kvs.map (·.1)
        · rw [look_more k k' i kvs h3, if_neg h2]
        · congr 1
          conv => rhs; rw [← List.map_id kvs]
          refine List.map_congr_left fun x hx => ?_
          rw [if_neg fun z => h3 (List.mem_map.mpr ⟨x, hx, z⟩)]; rfl
    · rw [if_neg h1, if_neg h1]
      have h3 : k ∈ kvs.map (·.1) := by
        rcases List.mem_cons.mp h with z | z
        · exact absurd z.symm h1
        · exact z
      rw [look_more k k' i kvs h3]
      by_cases h2 : k' = k
      · rw [if_pos h2, if_pos h2, if_neg (fun z => h1 (z.trans h2))]
      · rw [if_neg h2, if_neg h2]
theorem look_no {kvs : SeatL} {k : List Key} (h : k ∉ kvs.map (·.1)) : look kvs k = [] := by
  induction kvs with
  | nil => rfl
  | cons kv kvs ih =>
    rw [look_cons, if_neg (fun z => h (by rw [List.map_cons, z]; exact List.mem_cons_self)), ih fun z => h (List.mem_cons_of_mem _ z)]
theorem look_snoc (k k' : List Key) (es : List Int) : ∀ kvs : SeatL, k ∉ kvs.map (·.1) → look (kvs ++ [(k, es)]) k' = if k' = k then es else look kvs k'
  | [], _ => by
    rw [List.nil_append, look_cons]
    by_cases z : k' = k
    · rw [if_pos (show (k, es).1 = k' from z.symm), if_pos z]
    · rw [if_neg (show ¬ (k, es).1 = k' from fun y => z y.symm), if_neg z]
  | kv :: kvs, h => by
    rw [List.cons_append, look_cons, look_cons, look_snoc k k' es kvs fun z => h (List.mem_cons_of_mem _ z)]
    by_cases h1 : kv.1 = k'
    · rw [if_pos h1, if_pos h1, if_neg (fun z => h (by rw [List.map_cons, h1, z]; exact List.mem_cons_self))]
    · rw [if_neg h1, if_neg h1]
theorem look_add (kvs : SeatL) (k k' : List Key) (i : Int) : look (addSeat kvs k i) k' = if k' = k then look kvs k ++ [i] else look kvs k' := by
  unfold addSeat
  by_cases h : k ∈ kvs.map (·.1)
  · rw [if_pos ((any_key kvs k).mpr h), look_more k k' i kvs h]
  · rw [if_neg fun z => h ((any_key kvs k).mp z), look_snoc k k' [i] kvs h, look_no h]; rfl
theorem seats_run : ∀ (dl : List (Option Pr)) (n : Nat) (kvs : SeatL), ∃ kvs', seatsD n (dl.map opD) kvs = some kvs' ∧ ∀ q, look kvs' (prK q) = look kvs (prK q) ++ seatsOf n dl q
  | [], n, kvs => ⟨kvs, by rw [List.map_nil]; unfold seatsD; rfl, fun q => by unfold seatsOf; rw [List.append_nil]⟩
  | none :: r, n, kvs => by
    obtain ⟨kvs', h1, h2⟩ := seats_run r (n + 1) kvs
    refine ⟨kvs', ?_, fun q => ?_⟩
    · rw [List.map_cons]
      exact (seatsD_non n _ kvs).trans h1
    · rw [h2 q]
      conv => rhs; unfold seatsOf
      rw [if_neg (by simp)]
  | some q0 :: r, n, kvs => by
    obtain ⟨kvs', h1, h2⟩ := seats_run r (n + 1) (addSeat kvs (prK q0) (n : Int))
    refine ⟨kvs', ?_, fun q => ?_⟩
    · rw [List.map_cons]
      exact (seatsD_tup n _ _ kvs).trans h1
    · rw [h2 q, look_add]
      conv => rhs; unfold seatsOf
      by_cases h : q = q0
      · rw [if_pos (by rw [h]), if_pos (by rw [h]), h, List.append_assoc]; rfl
      · rw [if_neg fun z => h (prK_eq.mp z), if_neg (by simp; exact fun z => h z.symm)]
theorem getD_look (kvs : SeatL) (k : List Key) : (getK (kvs.map fun kv => (kv.1, D.lst (iL kv.2))) k).getD (.lst []) = .lst (iL (look kvs k)) := by
  induction kvs with
  | nil => rfl
  | cons kv kvs ih =>
    rw [look_cons]
    unfold getK at ih ⊢
    rw [List.map_cons, List.find?_cons]
    by_cases h : kv.1 = k
    · rw [decide_eq_true (show ((kv.1, D.lst (iL kv.2)) : List Key × D).1 = k from h), if_pos h]; rfl
    · rw [decide_eq_false (show ¬ ((kv.1, D.lst (iL kv.2)) : List Key × D).1 = k from h), if_neg h]; exact ih
/-- what pieces_by_pair answers -/
structure Seats (dl : List (Option Pr)) (kvs : List (List Key × D)) : Prop where
  at_ : ∀ q, (getK kvs (prK q)).getD (.lst []) = .lst (iL (seatsOf 0 dl q))
theorem seats_spec {dl : List (Option Pr)} (hl : dl.length ≤ 1000) {r : Gm} (hr : r = [none, none, none]) : ∃ kvs, tSeats (some (.v (.lst (dl.map opD))) :: r) = some (.rt (.o (.dct kvs))) ∧ Seats dl kvs := by
  obtain ⟨kvs, h1, h2⟩ := seats_run dl 0 []
  refine ⟨kvs.map fun kv => (kv.1, D.lst (iL kv.2)), ?_, ⟨fun q => ?_⟩⟩
  · rw [hr]
    show (if (dl.map opD).length ≤ 100000 then (seatsD 0 (dl.map opD) []).map fun kvs => Out.rt (.o (seatD kvs)) else none) = _
    rw [if_pos (by rw [List.length_map]; omega), h1]; rfl
  · rw [getD_look, h2 q]; rfl
end Zc
end

section
set_option Elab.async false
set_option linter.all false
set_option maxRecDepth 100000
set_option maxHeartbeats 2000000
/-! The search for a walk, as the program writes it. -/
namespace Zc
open PySem L2 Zk
/-! ### the program -/
def t_pieces_by_pair : SF :=
 tSeats
def g_pieces_by_pair : PF := runG 3 (t_pieces_by_pair)
def t_walk_to : SF :=
 (sSeq (sAsgO (dN mkLst aNil) 3)
 (sSeq (sWhile (tDt blD (d2 isntD (dVar 2) (dC .non)))
 (sSeq (sAsg (dIxO 1 (dVar 2)) (dName 4))
 (sSeq (sApp 3 (dN mkTup (aCons (dVar 4) (aCons (dVar 2) aNil))))
 (sAsg (d2 ixD (dVar 0) (dVar 4)) (dName 2)))))
 (sFrz [3] (sRetO (d1 revD (dVar 3))))))
def g_walk_to : PF := runG 2 (t_walk_to)
def t_find_walk (c : Cs) : SF :=
 (sSeq (sAsg (dIf (tDt blD (d2 isD (dVar 2) (dC .non))) (d1 lrD (d1 (fldD c.Pool "pieces") (dVar 0))) (dVar 2)) (dName 3))
 (sSeq (sAsgO (dLc (dItems (dVar 3)) (dName 8) (tDt blD (d2 isD (d2 ixD (dVar 1) (dVar 8)) (dC .non))) (dVar 8) [8]) 4)
 (sSeq (sAsg (dCall 1 (g_pieces_by_pair) (aCons (dVar 1) aNil)) (dName 5))
 (sSeq (sAsgO (fun _ => some (.dct [])) 6)
 (sSeq (sAsg (dC (.int 0)) (dName 7))
 (sSeq (sWhile (peekT (tDt blD (d2 ltD (dVar 7) (dN lenD (aCons (dVar 4) aNil)))))
 (sSeq (sAsg (peekF (d2 ixD (dVar 4) (dVar 7))) (dName 8))
 (sSeq (sFor (dItems (dCall 2 (g_held_pairs c) (aCons (dVar 0) (aCons (dVar 8) aNil)))) (dName 9)
 (sIf (tDt blD (dNotInO 6 (dVar 9)))
 (sSeq (sPutO 6 (dVar 9) (dVar 8))
 (sSeq (sAsg (dGetO 5 (dVar 9) (dN mkLst aNil)) (dName 10))
 (sSeq (sIf (tDt blD (d2 ltD (dN lenD (aCons (dVar 10) aNil)) (dCall 2 (g_pair_room c) (aCons (dVar 0) (aCons (dVar 9) aNil)))))
 (sFrz [6] (sRetO (dCallO 3 (g_walk_to) (aCons (dVar 1) (aCons (dVar 6) (aCons (dVar 9) aNil))))))
 sNext)
 (sExt 4 (dVar 10)))))
 sNext))
 (sAugI (fun i j => i + j) 7 (dC (.int 1))))))
 (sRet (dC .non))))))))
def g_find_walk (c : Cs) : PF := runG 8 (t_find_walk c)

section
variable {g : Gm} {d e : D} {ds es : List D} {i : Nat} {q : Pr} {kvs : List (List Key × D)} {o : Option Wd} {a k : DF}
theorem dctAt_o : dctAt (some (.o (.dct kvs)) :: g) 0 = some kvs := rfl
theorem dctAt_v : dctAt (some (.v (.dct kvs)) :: g) 0 = some kvs := rfl
theorem dctAt_s : dctAt (o :: g) (i + 1) = dctAt g i := rfl
def apDix : Option (List (List Key × D)) → Option D → Option D := fun x y => x.bind fun kvs => y.bind fun z => (keyD z).bind fun ks => getK kvs ks
theorem apDix_some : apDix (some kvs) (some (prD q)) = getK kvs (prK q) := rfl
theorem dIxO_a : dIxO i k g = apDix (dctAt g i) (k g) := rfl
def apDget : Option (List (List Key × D)) → Option D → Option D → Option D := fun x y w => x.bind fun kvs => y.bind fun z => (keyD z).bind fun ks => w.bind fun d => some ((getK kvs ks).getD d)
theorem apDget_some : apDget (some kvs) (some (prD q)) (some d) = some ((getK kvs (prK q)).getD d) := rfl
theorem dGetO_a : dGetO i k a g = apDget (dctAt g i) (k g) (a g) := rfl
def apDnin : Option D → Option (List (List Key × D)) → Option D := fun y x => y.bind fun z => x.bind fun kvs => (keyD z).bind fun ks => some (.bl (!(getK kvs ks).isSome))
theorem apDnin_some : apDnin (some (prD q)) (some kvs) = some (.bl (!(getK kvs (prK q)).isSome)) := rfl
theorem dNotInO_a : dNotInO i k g = apDnin (k g) (dctAt g i) := rfl
def apPut : Option D → Option D → Option D → Nat → Gm → Option Out := fun x y w i g => x.bind fun d => y.bind fun z => (keyD z).bind fun ks => match w with
  | some (.dct kvs) => if kvs.length < 100000 then some (.nx (g.set i (some (.o (.dct (setK kvs ks d)))))) else none
  | _ => none
theorem apPut_some (h : kvs.length < 100000) : apPut (some d) (some (prD q)) (some (.dct kvs)) i g = some (.nx (g.set i (some (.o (.dct (setK kvs (prK q) d)))))) := if_pos h
theorem sPutO_a : sPutO i k a g = apPut (a g) (k g) (getO g i) i g := by
  unfold sPutO apPut getO
  cases a g with
  | none => rfl
  | some d =>
    cases k g with
    | none => rfl
    | some y =>
      simp only [Option.bind_some]
      cases keyD y with
      | none => rfl
      | some ks =>
        simp only [Option.bind_some]
        rcases h : g[i]? with _ | _ | w | w
        · rfl
        · rfl
        · rfl
        · cases w <;> rfl
def apExt : Option D → Option D → Nat → Gm → Option Out := fun x w i g => match x, w with
  | some (.lst es), some (.lst ds) => if ds.length + es.length ≤ 100000 then some (.nx (g.set i (some (.o (.lst (ds ++ es)))))) else none
  | _, _ => none
theorem apExt_some (h : ds.length + es.length ≤ 100000) : apExt (some (.lst es)) (some (.lst ds)) i g = some (.nx (g.set i (some (.o (.lst (ds ++ es)))))) := if_pos h
theorem sExt_a : sExt i a g = apExt (a g) (getO g i) i g := by
  unfold sExt apExt getO
  cases a g with
  | none => rfl
  | some d =>
    simp only [Option.bind_some]
    rcases h : g[i]? with _ | _ | w | w
    · cases d <;> rfl
    · cases d <;> rfl
    · cases d <;> rfl
    · cases d <;> cases w <;> rfl
def apAug (f : Int → Int → Int) : Option D → Option D → Nat → Gm → Option Out := fun x y i g => match x, y with
  | some (.int x), some (.int y) => (dName i (.int (f x y)) g).map .nx
  | _, _ => none
theorem apAug_some {f : Int → Int → Int} {x y : Int} : apAug f (some (.int x)) (some (.int y)) i g = (dName i (.int (f x y)) g).map .nx := rfl
theorem sAugI_a {f : Int → Int → Int} : sAugI f i a g = apAug f (dVar i g) (a g) i g := by
  unfold sAugI apAug
  cases dVar i g with
  | none => rfl
  | some x =>
    cases a g with
    | none => cases x <;> rfl
    | some y => cases x <;> cases y <;> rfl
theorem lr_i {n : Int} (h : 0 ≤ n ∧ n ≤ 100000) : lrD (.int n) = some (.lst (rngL 0 n.toNat)) := if_pos h
theorem callK2 {gf : PF} {x y z : D} {r s : DAF} (h : r g = some [x, y]) (h' : s g = some [z]) : dCallK 2 1 gf r s g = (gf [x, y, z]).map Wd.d := by unfold dCallK; rw [h, h']; rfl
def apAsgW : Option Wd → Nat → Gm → Option Out := fun x i g => x.bind fun w => if okSlot g i = true then some (.nx (g.set i (some w))) else none
theorem apAsgW_some {w : Wd} (h : okSlot g i = true) : apAsgW (some w) i g = some (.nx (g.set i (some w))) := if_pos h
theorem sAsgW_a {b : Gm → Option Wd} : sAsgW b i g = apAsgW (b g) i g := rfl
end
/-! ### the tree -/
section
variable {caps : List Int} {hs : List (List Int)} {dl : List (Option Pr)} {S : List Int}
structure Tree (caps : List Int) (hs : List (List Int)) (dl : List (Option Pr)) (S : List Int) (tk : Tk) : Prop where
  kn : (keys tk).Nodup
  tr : ∀ (j : Nat) (q : Pr) (p : Int), tk[j]? = some (q, p) → ∃ n : Nat, p = n ∧ n < hs.length ∧ q ∈ heldP caps (hs[n]?.getD []) ∧ ((dl[n]? = some none ∧ p ∈ S) ∨ ∃ (l : Nat) (q' : Pr) (p' : Int), dl[n]? = some (some q') ∧ tk[l]? = some (q', p') ∧ l < j)
/-- what walk_to holds: the walk's end wk, behind the pair o -/
structure Sfx (caps : List Int) (hs : List (List Int)) (dl : List (Option Pr)) (S : List Int) (tk : Tk) (q0 : Pr) (i : Nat) (o : Option Pr) (wk : Steps) : Prop where
  ln : wk.length = i
  wb : ∀ u : List Int, (∀ s ∈ wk, s.1 ∉ u) → walkB caps hs dl o u wk = some (some q0)
  hold : Hold hs.length (wk.map (·.1))
  top : o = none → ∃ s, wk.head? = some s ∧ s.1 ∈ S
  mid : ∀ q, o = some q → ∃ (j : Nat) (p : Int), tk[j]? = some (q, p) ∧ j + i < tk.length ∧ ∀ s ∈ wk, ∃ (m : Nat) (q' : Pr) (p' : Int), dl[s.1.toNat]? = some (some q') ∧ tk[m]? = some (q', p') ∧ j ≤ m
theorem Sfx.step {tk : Tk} (T : Tree caps hs dl S tk) {q0 : Pr} {i : Nat} {q : Pr} {wk : Steps} (h : Sfx caps hs dl S tk q0 i (some q) wk) :
    ∃ (j : Nat) (n : Nat) (l : Option Pr), tk[j]? = some (q, (n : Int)) ∧ dl[n]? = some l ∧ n < hs.length ∧ i < tk.length ∧ Sfx caps hs dl S tk q0 (i + 1) l (((n : Int), q) :: wk) := by
  obtain ⟨j, p, hj, hji, hm⟩ := h.mid q rfl
  obtain ⟨n, rfl, hn, hq, hor⟩ := T.tr j q p hj
  have fresh : ∀ l, dl[n]? = some l → (∀ q', l = some q' → ∃ (x : Nat) (p' : Int), tk[x]? = some (q', p') ∧ x < j) → ∀ s ∈ wk, s.1 ≠ (n : Int) := fun l hl hlt s hs' e => by
    obtain ⟨m, q', p', h1, h2, h3⟩ := hm s hs'
    rw [e, Int.toNat_natCast, hl] at h1
    obtain ⟨x, p2, h4, h5⟩ := hlt q' (Option.some.inj h1)
    have := keys_inj T.kn h2 h4
    omega
  have main : ∀ l, dl[n]? = some l → some q ≠ l → (∀ q', l = some q' → ∃ (x : Nat) (p' : Int), tk[x]? = some (q', p') ∧ x < j) → (l = none → (n : Int) ∈ S) → Sfx caps hs dl S tk q0 (i + 1) l (((n : Int), q) :: wk) := fun l hl hne hlt hnone => by
    have fr := fresh l hl hlt
    refine ⟨by rw [List.length_cons, h.ln], fun u hu => ?_, ⟨?_, ?_⟩, fun e => ⟨_, rfl, hnone e⟩, fun q' e => ?_⟩
    · have hok : StepOk caps hs dl l u ((n : Int), q) := ⟨⟨by show (0 : Int) ≤ (n : Int); omega, by show (n : Int) < _; omega⟩, hu _ List.mem_cons_self, by show dl[((n : Nat) : Int).toNat]? = _; rw [Int.toNat_natCast]; exact hl, by show q ∈ heldP caps (hs[((n : Nat) : Int).toNat]?.getD []); rw [Int.toNat_natCast]; exact hq, hne⟩
      rw [walkB_yes hok]
      refine h.wb _ fun s hs' z => ?_
      rcases List.mem_append.mp z with z | z
      · exact hu s (List.mem_cons_of_mem _ hs') z
      · exact fr s hs' (List.mem_singleton.mp z)
    · rw [List.map_cons]
      exact List.nodup_cons.mpr ⟨fun z => by obtain ⟨s, h1, h2⟩ := List.mem_map.mp z; exact fr s h1 h2, h.hold.1⟩
    · intro k hk
      rw [List.map_cons] at hk
      rcases List.mem_cons.mp hk with z | z
      · rw [z]; show 0 ≤ (n : Int) ∧ (n : Int) < _; omega
      · exact h.hold.2 k z
    · obtain ⟨x, p', h4, h5⟩ := hlt q' e
      refine ⟨x, p', h4, by omega, fun s hs' => ?_⟩
      rcases List.mem_cons.mp hs' with z | z
      · rw [z]
        exact ⟨x, q', p', by show dl[((n : Nat) : Int).toNat]? = _; rw [Int.toNat_natCast, hl, e], h4, Nat.le_refl _⟩
      · obtain ⟨m, q2, p2, h1, h2, h3⟩ := hm s z
        exact ⟨m, q2, p2, h1, h2, by omega⟩
  refine ⟨j, n, ?_⟩
  rcases hor with ⟨h1, h2⟩ | ⟨l, q', p', h1, h2, h3⟩
  · exact ⟨none, hj, h1, hn, by omega, main none h1 (by simp) (fun q' z => by cases z) fun _ => h2⟩
  · refine ⟨some q', hj, h1, hn, by omega, main (some q') h1 (fun z => ?_) (fun q2 z => by cases z; exact ⟨l, p', h2, h3⟩) fun z => by cases z⟩
    cases z
    have := keys_inj T.kn hj h2
    omega
theorem Tree.grow {tk : Tk} (T : Tree caps hs dl S tk) {q : Pr} {n : Nat} (hq : q ∉ keys tk) (hn : n < hs.length) (hh : q ∈ heldP caps (hs[n]?.getD [])) (hw : (dl[n]? = some none ∧ (n : Int) ∈ S) ∨ ∃ q', dl[n]? = some (some q') ∧ q' ∈ keys tk) :
    Tree caps hs dl S (tk ++ [(q, (n : Int))]) where
  kn := by
    unfold keys
    rw [List.map_append, List.nodup_append]
    exact ⟨T.kn, by simp, fun a ha b hb z => hq (by simp at hb; rw [← hb, ← z]; exact ha)⟩
  tr j q' p h := by
    rcases snoc_get h with h | ⟨h1, h2⟩
    · obtain ⟨m, e, h1, h2, h3⟩ := T.tr j q' p h
      refine ⟨m, e, h1, h2, h3.imp id ?_⟩
      rintro ⟨l, q2, p2, a1, a2, a3⟩
      exact ⟨l, q2, p2, a1, by rw [List.getElem?_append_left (List.getElem?_eq_some_iff.mp a2).1]; exact a2, a3⟩
    · cases h2
      refine ⟨n, rfl, hn, hh, hw.imp id ?_⟩
      rintro ⟨q2, a1, a2⟩
      obtain ⟨l, hl⟩ := List.mem_iff_getElem?.mp a2
      unfold keys at hl
      rw [List.getElem?_map] at hl
      cases e : tk[l]? with
      | none => rw [e] at hl; cases hl
      | some x =>
        rw [e] at hl
        obtain ⟨x1, x2⟩ := x
        cases hl
        have hlt := (List.getElem?_eq_some_iff.mp e).1
        exact ⟨l, _, x2, a1, by rw [List.getElem?_append_left hlt]; exact e, by omega⟩
/-- what the search holds between two turns -/
structure Bfs (caps : List Int) (hs : List (List Int)) (dl : List (Option Pr)) (S : List Int) (tk : Tk) (wl : List Int) : Prop where
  tree : Tree caps hs dl S tk
  wn : Hold hs.length wl
  wi : ∀ n : Nat, (n : Int) ∈ wl → (dl[n]? = some none ∧ (n : Int) ∈ S) ∨ ∃ q', dl[n]? = some (some q') ∧ q' ∈ keys tk
  full : ∀ q ∈ keys tk, roomOf caps q ≤ (dl.count (some q) : Nat) ∧ ∀ n : Nat, dl[n]? = some (some q) → (n : Int) ∈ wl
  st : ∀ n : Nat, (n : Int) ∈ S → dl[n]? = some none → (n : Int) ∈ wl
theorem Bfs.new (hS : Hold hs.length S) (hl : dl.length = hs.length) : Bfs caps hs dl S [] (S.filter fun p => decide (at_ dl p = none)) := by
  have ge : ∀ n : Nat, (n : Int) ∈ S → dl[n]? = some (at_ dl (n : Int)) := fun n h => by
    have := (hS.2 _ h).2
    have := at_get (xs := dl) (k := (n : Int)) (by omega) (by omega)
    rw [Int.toNat_natCast] at this
    exact this
  refine ⟨⟨List.nodup_nil, fun j q p h => by cases h⟩, ⟨hS.1.sublist List.filter_sublist, fun k hk => hS.2 k (List.mem_filter.mp hk).1⟩, fun n hn => .inl ?_, fun q h => (by cases h), fun n h1 h2 => List.mem_filter.mpr ⟨h1, ?_⟩⟩
  · obtain ⟨h1, h2⟩ := List.mem_filter.mp hn
    exact ⟨by rw [ge n h1, of_decide_eq_true h2], h1⟩
  · rw [ge n h1] at h2
    exact decide_eq_true (Option.some.inj h2)
theorem Bfs.more {tk : Tk} {wl : List Int} (b : Bfs caps hs dl S tk wl) (hl : dl.length = hs.length) {q : Pr} {n : Nat} (hq : q ∉ keys tk) (hn : (n : Int) ∈ wl) (hh : q ∈ heldP caps (hs[n]?.getD [])) (hf : roomOf caps q ≤ (dl.count (some q) : Nat)) :
    Bfs caps hs dl S (tk ++ [(q, (n : Int))]) (wl ++ seatsOf 0 dl q) := by
  have ks : ∀ x, x ∈ keys (tk ++ [(q, (n : Int))]) ↔ x ∈ keys tk ∨ x = q := fun x => by unfold keys; rw [List.map_append, List.mem_append]; simp
  have hnl : n < hs.length := by have := (b.wn.2 _ hn).2; omega
  have hsm : ∀ m : Nat, (m : Int) ∈ seatsOf 0 dl q ↔ dl[m]? = some (some q) := fun m => by
    rw [seatsOf_mem]
    constructor
    · rintro ⟨p, h1, h2⟩; rw [show m = p by omega]; exact h2
    · exact fun h => ⟨m, by omega, h⟩
  refine ⟨b.tree.grow hq hnl hh (b.wi n hn), ⟨?_, fun k hk => ?_⟩, fun m hm => ?_, fun q' h => ?_, fun m h1 h2 => List.mem_append_left _ (b.st m h1 h2)⟩
  · rw [List.nodup_append]
    refine ⟨b.wn.1, seatsOf_nodup q dl 0, fun x hx y hy z => ?_⟩
    rw [z] at hx
    obtain ⟨p, h1, h2⟩ := seatsOf_mem.mp hy
    rw [show (0 + p : Nat) = p by omega] at h1
    rw [h1] at hx
    rcases b.wi p hx with ⟨h3, _⟩ | ⟨q', h3, h4⟩
    · rw [h2] at h3; cases h3
    · rw [h2] at h3; cases h3; exact hq h4
  · rcases List.mem_append.mp hk with z | z
    · exact b.wn.2 k z
    · obtain ⟨p, h1, h2⟩ := seatsOf_mem.mp z
      have := (List.getElem?_eq_some_iff.mp h2).1
      omega
  · rcases List.mem_append.mp hm with z | z
    · exact (b.wi m z).imp id fun ⟨q', h1, h2⟩ => ⟨q', h1, (ks q').mpr (.inl h2)⟩
    · exact .inr ⟨q, (hsm m).mp z, (ks q).mpr (.inr rfl)⟩
  · rcases (ks q').mp h with z | z
    · exact ⟨(b.full q' z).1, fun m hm => List.mem_append_left _ ((b.full q' z).2 m hm)⟩
    · rw [z]
      exact ⟨hf, fun m hm => List.mem_append_right _ ((hsm m).mpr hm)⟩
/-- what stands when no walk is found -/
structure Stuck (caps : List Int) (hs : List (List Int)) (dl : List (Option Pr)) (S : List Int) (K : List Pr) : Prop where
  nd : K.Nodup
  full : ∀ q ∈ K, roomOf caps q ≤ (dl.count (some q) : Nat)
  st : ∀ n : Nat, (n : Int) ∈ S → dl[n]? = some none → ∀ q ∈ heldP caps (hs[n]?.getD []), q ∈ K
  sat : ∀ (n : Nat) (q : Pr), dl[n]? = some (some q) → q ∈ K → ∀ q' ∈ heldP caps (hs[n]?.getD []), q' ∈ K
theorem Bfs.stuck {tk : Tk} {wl : List Int} (b : Bfs caps hs dl S tk wl) (h : ∀ n : Nat, (n : Int) ∈ wl → ∀ q ∈ heldP caps (hs[n]?.getD []), q ∈ keys tk) : Stuck caps hs dl S (keys tk) :=
  ⟨b.tree.kn, fun q hq => (b.full q hq).1, fun n h1 h2 => h n (b.st n h1 h2), fun n q h1 h2 => h n ((b.full q h2).2 n h1)⟩
end
end Zc
end

section
set_option Elab.async false
set_option linter.all false
set_option maxRecDepth 100000
set_option maxHeartbeats 2000000
/-! What the search answers. -/
namespace Zc
open PySem L2 Zk
theorem snoc_s2 {xs : Steps} {x : Int} {q : Pr} : xs.map stD ++ [D.tup [.int x, prD q]] = (xs ++ [(x, q)]).map stD := by rw [List.map_append]; rfl
local macro_rules | `(tactic| walk_at "zs") => `(tactic| simp only [beq_self_eq_true, Bool.or_false, Bool.false_or, Bool.true_or, Bool.or_true, Bool.and_false, Bool.false_and, Bool.true_and, Bool.and_true, Zc.isi_ii, Zc.isi_ib, Zc.isi_tt, Zc.isi_ll, Zc.rowsT_len, Zc.rowsL_len, Zc.is_integer_call, Zc.ix_p0, Zc.ix_p1, dgTup2_a, dgTup3_a, Bool.not_true, Bool.not_false, mul_lz, List.flatten_cons, List.flatten_nil, Int.reduceToNat, add_ll, pow10_12, pow10_18, pow10_39, pow10_41, pow10_59, pow10_60, mkLst_some, mkTup_some, List.length_cons, List.length_nil, Nat.zero_le, Nat.reduceAdd, Nat.reduceLeDiff, call1, callO1, call2, callO2, call3, callO3, call4, callO4, call5, callO5, call6, callO6, ap1_some, ap2_some, apN_some, apC_some, d1_a, d2_a, dN_a, aNil_a, aCons_a, dC_a, dVar_z, dVar_s, tDt_a, apAnd_t, apAnd_f, apOr_t, apOr_f, dAndT_a, dOrT_a, apNot_some, dNotT_a, apAndV_t, apAndV_f, dAndV_a, apOrV_t, apOrV_f, dOrV_a, apIf_t, apIf_f, dIf_a, apCh_t, apCh_f, apChain_some, dChain_a, apSeq_nx, apSeq_rt, apSeq_ct, apSeq_bk, sSeq_a, apIfS_t, apIfS_f, sIf_a, sNext_a, sCont_a, sBreak_a, apRet_some, sRet_a, apRetO_some, sRetO_a, sRetN_a, getO_z, getO_s, apRetV_some, sRetV_a, ltB_z, ltB_s, okSlot_s, apAsg_some, sAsg_a, dName_ok, apG_some, dgCons_a, dgNil_a, apAsgO_some, sAsgO_a, sApp_a, sSetI_a, apFor_some, sFor_a, dItems_a, dRng1_a, dRng2_a, apEn_some, apEn_tup, dEnum_a, sFrz_a, frzs_nil, frzs_cons, frzI_o, frzI_v, frzI_n, frzI_s, frz1_s, frzAll_nil, frzAll_o, frzAll_v, frzAll_n, peekT_a, apPk_int, apPk_bl, apPk_str, apPk_non, peekF_a, dCall_a, toO_o, dCallO_a, dMake_a, Wd_v, Wd_o, dSl_a, apSl_some, oNone_a, oSome_a, apO_some, add_ii, sub_ii, lt_ii, le_ii, gt_ii, ge_ii, eq_ii, ne_ii, neg_i, not_b, bl_b, tru_b, tru_i, tru_l, tru_t, tru_n, len_l, len_t, len_scr, abs_i, int_i, list_l, list_t, tuple_l, tuple_t, min_ii, max_ii, rev_l, items_l, items_t, iL_len, run_a, outW_rt, outW_nx, List.map_cons, List.map_nil, List.replicate, List.append_nil, List.cons_append, List.nil_append, List.set_cons_zero, List.set_cons_succ, Option.map_some])
local macro_rules | `(tactic| walk_at "zd") => `(tactic| first | ((with_reducible show okSlot _ _ = true); simp only [okSlot_s, ltB_z, ltB_s]; done) | omega | assumption | decide | (simp only [List.length_map, List.length_append, List.length_cons, List.length_nil, List.length_range, List.length_set, List.length_reverse, iL_len, Zc.rowsT_len, Zc.rowsL_len] at *; omega))
local macro_rules | `(tactic| walk_at "zz") => `(tactic| simp (disch := walk_at "zd") only [dgTup2_a, dgTup3_a, Bool.not_true, Bool.not_false, mul_lz, List.flatten_cons, List.flatten_nil, Int.reduceToNat, add_ll, pow10_12, pow10_18, pow10_39, pow10_41, pow10_59, pow10_60, mkLst_some, mkTup_some, List.length_cons, List.length_nil, Nat.zero_le, Nat.reduceAdd, Nat.reduceLeDiff, call1, callO1, call2, callO2, call3, callO3, call4, callO4, call5, callO5, call6, callO6, ap1_some, ap2_some, apN_some, apC_some, d1_a, d2_a, dN_a, aNil_a, aCons_a, dC_a, dVar_z, dVar_s, tDt_a, apAnd_t, apAnd_f, apOr_t, apOr_f, dAndT_a, dOrT_a, apNot_some, dNotT_a, apAndV_t, apAndV_f, dAndV_a, apOrV_t, apOrV_f, dOrV_a, apIf_t, apIf_f, dIf_a, apCh_t, apCh_f, apChain_some, dChain_a, apSeq_nx, apSeq_rt, apSeq_ct, apSeq_bk, sSeq_a, apIfS_t, apIfS_f, sIf_a, sNext_a, sCont_a, sBreak_a, apRet_some, sRet_a, apRetO_some, sRetO_a, sRetN_a, getO_z, getO_s, apRetV_some, sRetV_a, ltB_z, ltB_s, okSlot_s, apAsg_some, sAsg_a, dName_ok, apG_some, dgCons_a, dgNil_a, apAsgO_some, sAsgO_a, sApp_a, sSetI_a, apFor_some, sFor_a, dItems_a, dRng1_a, dRng2_a, apEn_some, apEn_tup, dEnum_a, sFrz_a, frzs_nil, frzs_cons, frzI_o, frzI_v, frzI_n, frzI_s, frz1_s, frzAll_nil, frzAll_o, frzAll_v, frzAll_n, peekT_a, apPk_int, apPk_bl, apPk_str, apPk_non, peekF_a, dCall_a, toO_o, dCallO_a, dMake_a, Wd_v, Wd_o, dSl_a, apSl_some, oNone_a, oSome_a, apO_some, add_ii, sub_ii, lt_ii, le_ii, gt_ii, ge_ii, eq_ii, ne_ii, neg_i, not_b, bl_b, tru_b, tru_i, tru_l, tru_t, tru_n, len_l, len_t, len_scr, abs_i, int_i, list_l, list_t, tuple_l, tuple_t, min_ii, max_ii, rev_l, items_l, items_t, iL_len, run_a, outW_rt, outW_nx, List.map_cons, List.map_nil, List.replicate, List.append_nil, List.cons_append, List.nil_append, List.set_cons_zero, List.set_cons_succ, Option.map_some, Int.reduceAdd, Int.reduceMul, Int.reduceSub, Int.reduceNeg, beq_self_eq_true, Bool.or_false, Bool.false_or, Bool.true_or, Bool.or_true, Bool.and_false, Bool.false_and, Bool.true_and, Bool.and_true, Zc.isi_ii, Zc.isi_ib, Zc.isi_tt, Zc.isi_ll, Zc.rowsT_len, Zc.rowsL_len, Zc.is_integer_call, Zc.ix_p0, Zc.ix_p1, apR1_any, Int.toNat_natCast, apR2_some, mod_ii, fdiv_ii, mul_small, apApp_some, ix_at, ix_atT, ix_atI, ix_atIT, ix_atR, ix_atRT, List.length_map, List.length_append, List.length_range, List.length_set, Option.map_none, Option.map_map, decide_true, decide_false, peekO_a, apPkO_i, frz_wo, frz_wv, frz_kk, wipeG_nil, wipeG_cons, orB_s, orB_t, orB_f, andB_s, andB_t, andB_f, orV_s, orV_t, orV_f, andV_s, andV_t, andV_f, apOr_b, apAnd_b, apOrV_b, apAndV_b, apCh_b, Zc.cut_from, Zc.cut_to, in_l, in_t, in_pr, eq_op_op, eq_op_pr, eq_pr_op, eq_pr_pr, ne_op_op, ne_op_pr, ne_pr_op, ne_pr_pr, isnt_op, is_op, pr_0, pr_1, st_0, st_1, inP_pr, ninP_pr, nin_l, isi_prt, len_pr, op_some, prD_eq, ix_lit2, ix_lit3, ix_lit4, ix_lit5, ix_lit6, ix_lit7, ix_lit8, ix_lit9, ix_lit10, ix_lit11, ix_lit12, ix_lit13, ix_lit14, ix_lit15, setI_i, setI_p, setI_o, setI_n, snoc_i, snoc_r, snoc_p, snoc_n, snoc_o, snoc_pp, snoc_s, eq_ol, ne_ol, eq_pl, ne_pl, eq_sl, ne_sl, eq_il, ne_il, eq_rl, ne_rl, eq_il1, isi_bb, eq_bb, ne_bb, dctAt_o, dctAt_v, dctAt_s, apDix_some, dIxO_a, apDget_some, dGetO_a, apDnin_some, dNotInO_a, apPut_some, sPutO_a, apExt_some, sExt_a, apAug_some, sAugI_a, lr_i, apAsgW_some, sAsgW_a, snoc_s2])
local macro_rules | `(tactic| walk_at "zf") => `(tactic| first | (walk_at "zz"; done) | (walk_at "zz"; rfl) | rfl)
local macro_rules | `(tactic| walk_at "lc") => `(tactic| ((case hf => rfl); (case hi => first | (walk_at "zz"; done) | (walk_at "zz"; rfl) | rfl); (case hl => walk_at "zd"); (case h => (intro a ha; refine ⟨_, dName_ok rfl, ?_, fun hT => ?_⟩ <;> walk_at "zz" <;> rfl))))
local macro_rules | `(tactic| walk_at "lm") => `(tactic| ((case hf => rfl); (case hi => first | (walk_at "zz"; done) | (walk_at "zz"; rfl) | rfl); (case hl => walk_at "zd"); (case h => (intro a ha; refine ⟨_, dName_ok rfl, ?_⟩; walk_at "zz"; rfl))))
theorem prs_held {caps : List Int} : ∀ h : List Int, prs (h.filter (posC caps)) = (heldP caps h).map prD
  | [] => rfl
  | a :: r => by
    have ih := prs_held (caps := caps) r
    unfold heldP
    rw [List.map_append, ← ih, List.filter_cons]
    by_cases ha : posC caps a = true
    · rw [if_pos ha]
      show (r.filter (posC caps)).map (pr a) ++ prs (r.filter (posC caps)) = _
      congr 1
      rw [List.map_map]
      have : r.filter (posC caps) = r.filter fun b => decide (0 < roomOf caps (a, b)) := List.filter_congr fun b _ => by
        unfold posC at ha ⊢
        have := of_decide_eq_true ha
        unfold roomOf
        by_cases hb : 0 < capAt caps b
        · rw [decide_eq_true hb]; symm; apply decide_eq_true; show 0 < if capAt caps b < capAt caps a then capAt caps b else capAt caps a; split <;> omega
        · rw [decide_eq_false hb]; symm; apply decide_eq_false; show ¬ 0 < if capAt caps b < capAt caps a then capAt caps b else capAt caps a; split <;> omega
      rw [this]
      rfl
    · rw [if_neg ha]
      have : r.filter (fun b => decide (0 < roomOf caps (a, b))) = [] := List.filter_eq_nil_iff.mpr fun b _ => by
        unfold posC at ha
        have h1 : ¬ 0 < capAt caps a := fun z => ha (decide_eq_true z)
        have : ¬ 0 < roomOf caps (a, b) := by
          unfold roomOf
          show ¬ 0 < if capAt caps b < capAt caps a then capAt caps b else capAt caps a
          split <;> omega
        rw [decide_eq_false this]; simp
      rw [this]; rfl
theorem held_pairs_P (c : Cs) {caps : List Int} {hs : List (List Int)} {m : Nat} (ok : PoolOk caps hs m) {n : Nat} (hn : n < hs.length) :
    g_held_pairs c [poolD c caps hs, .int (n : Int)] = some (.o (.lst ((heldP caps (hs[n]?.getD [])).map prD))) := by
  have e := List.getElem?_eq_getElem hn
  rw [held_pairs_spec c e (ok.asc _ (List.mem_of_getElem? e)) (by have := ok.s12; omega), e]
  unfold heldL
  rw [prs_held]; rfl
theorem walk_to_spec {caps : List Int} {hs : List (List Int)} {dl : List (Option Pr)} {S : List Int} {tk : Tk} (T : Tree caps hs dl S tk) (hl : dl.length = hs.length) (h1 : hs.length ≤ 1000) (ht : tk.length ≤ 10000) {j : Nat} {q0 : Pr} {p0 : Int} (hj : tk[j]? = some (q0, p0)) :
    ∃ sts : Steps, g_walk_to [.lst (dl.map opD), .dct (tkD tk), prD q0] = some (.o (.lst (sts.map stD))) ∧ walkB caps hs dl none [] sts = some (some q0) ∧ (∃ s, sts.head? = some s ∧ s.1 ∈ S) ∧ Hold hs.length (sts.map (·.1)) := by
  suffices h : Gets (g_walk_to [.lst (dl.map opD), .dct (tkD tk), prD q0]) fun w => ∃ sts : Steps, w = .o (.lst (sts.map stD)) ∧ walkB caps hs dl none [] sts = some (some q0) ∧ (∃ s, sts.head? = some s ∧ s.1 ∈ S) ∧ Hold hs.length (sts.map (·.1)) by
    obtain ⟨w, e, sts, rfl, h⟩ := h
    exact ⟨sts, e, h⟩
  unfold g_walk_to t_walk_to
  walk_at "zz"
  refine while_then (C := fun o => Gets (outW o) _) (fun _ => False) tk.length (fun i g => ∃ (o : Option Pr) (wk : Steps) (k4 : Option Wd), g = [some (.v (.lst (dl.map opD))), some (.v (.dct (tkD tk))), some (.v (opD o)), some (.o (.lst (wk.reverse.map stD))), k4] ∧ Sfx caps hs dl S tk q0 i o wk) ⟨some q0, [], none, rfl, ?_⟩ (by omega) ?_ ?_ ?_
  · exact ⟨rfl, fun u _ => rfl, ⟨List.nodup_nil, fun k hk => by cases hk⟩, (fun z => by cases z), fun q z => by cases z; exact ⟨j, p0, hj, by have := (List.getElem?_eq_some_iff.mp hj).1; omega, fun s hs' => by cases hs'⟩⟩
  · rintro i g ⟨o, wk, k4, rfl, h⟩
    walk_at "zz"
    refine ⟨_, rfl, fun hb => ?_⟩
    cases o with
    | none => cases hb
    | some q =>
      obtain ⟨l, n, lo, e1, e2, e3, e4, e5⟩ := h.step T
      refine ⟨e4, ?_⟩
      have hw := h.hold.len
      rw [List.length_map] at hw
      walk_at "zz"
      rw [getK_at T.kn e1]
      walk_at "zz"
      rw [show at_ dl (n : Int) = lo from at_eq rfl e2]
      exact turn_nx ⟨lo, (n, q) :: wk, _, by rw [List.reverse_cons], e5⟩
  · rintro i g ⟨o, wk, k4, rfl, h⟩ ht
    walk_at "zz"
    cases o with
    | some q => revert ht; walk_at "zz"; exact fun z => by cases z
    | none =>
      refine ⟨_, rfl, wk, ?_, h.wb [] (fun s _ z => by cases z), h.top rfl, h.hold⟩
      rw [← List.map_reverse, List.reverse_reverse]
  · exact fun w z => z.elim
theorem pieces_spec {dl : List (Option Pr)} (hl : dl.length ≤ 1000) : ∃ kvs, g_pieces_by_pair [.lst (dl.map opD)] = some (.o (.dct kvs)) ∧ Seats dl kvs := by
  obtain ⟨kvs, h1, h2⟩ := seats_spec hl (r := [none, none, none]) rfl
  refine ⟨kvs, ?_, h2⟩
  show outW (tSeats [some (.v (.lst (dl.map opD))), none, none, none]) = _
  rw [h1]; rfl
theorem room_P (c : Cs) {caps : List Int} {hs : List (List Int)} {q : Pr} (h : InR caps q) : g_pair_room c [poolD c caps hs, prD q] = some (.v (.int (roomOf caps q))) := pair_room_spec c h.1 h.2
theorem gen_each {α : Type} {f : DGF} {s q : SF} {C : Option Out → Prop} (enc : α → D) (xs : List α) (R : Wd → Prop) (B : Gm → Prop) (I : Nat → Gm → Prop) {g : Gm} (h0 : I 0 g)
    (hs : ∀ (i : Nat) (a : α) (g : Gm), xs[i]? = some a → I i g → ∃ g1, f (enc a) g = some g1 ∧ Turn (s g1) (I (i + 1)) R B)
    (k : ∀ g', I xs.length g' → C (q g')) (kb : ∀ g', B g' → C (q g')) (kr : ∀ w, R w → C (some (.rt w))) : C (apSeq (loopD f s (xs.map enc) g) q) :=
  gen_then R B I h0 (fun i d g hd hI => by
    rw [List.getElem?_map] at hd
    cases e : xs[i]? with
    | none => rw [e] at hd; cases hd
    | some a => rw [e] at hd; cases hd; exact hs i a g e hI) (fun g' h => k g' (by rw [List.length_map] at h; exact h)) kb kr
theorem app_i {xs ys : List Int} : iL xs ++ iL ys = iL (xs ++ ys) := by unfold iL; rw [List.map_append]
theorem rng_iL (n : Nat) : rngL 0 n = iL ((List.range n).map fun i => ((i : Nat) : Int)) := by
  unfold rngL iL
  rw [List.map_map]
  exact List.map_congr_left fun i _ => by show D.int (0 + (i : Int)) = _; rw [Int.zero_add]; rfl
/-- what find_walk answers -/
def FoundW (caps : List Int) (hs : List (List Int)) (dl : List (Option Pr)) (S : List Int) (w : Wd) : Prop :=
  (w = .v .non ∧ ∃ K, Stuck caps hs dl S K) ∨ ∃ sts : Steps, w = .o (.lst (sts.map stD)) ∧ dueB caps hs dl sts = true ∧ (∃ s, sts.head? = some s ∧ s.1 ∈ S) ∧ Hold hs.length (sts.map (·.1))
theorem find_walk_spec (c : Cs) {caps : List Int} {hs : List (List Int)} {m : Nat} (ok : PoolOk caps hs m) (hm : m ≤ 60) {dl : List (Option Pr)} (hl : dl.length = hs.length) {S : List Int} (hS : Hold hs.length S) (pcs : D)
    (hp : (pcs = .non ∧ S = (List.range hs.length).map fun i => ((i : Nat) : Int)) ∨ pcs = .lst (iL S)) : Gets (g_find_walk c [poolD c caps hs, .lst (dl.map opD), pcs]) (FoundW caps hs dl S) := by
  have hpm := ok.pm
  have hSl := hS.len
  obtain ⟨kvs, ek, sk⟩ := pieces_spec (dl := dl) (by omega)
  unfold g_find_walk t_find_walk
  walk_at "zz"
  refine seq_then (C := fun o => Gets (outW o) _) (fun g => g = [some (.v (poolD c caps hs)), some (.v (.lst (dl.map opD))), some (.v pcs), some (.v (.lst (iL S))), none, none, none, none, none, none, none]) ?_ ?_
  · rcases hp with ⟨rfl, e⟩ | rfl
    · refine ⟨_, ?_, rfl⟩
      rw [show isD D.non D.non = some (.bl true) from rfl]
      walk_at "zz"
      rw [fld_pieces]
      walk_at "zz"
      rw [rng_iL, ← e]
    · refine ⟨_, ?_, rfl⟩
      rw [show isD (D.lst (iL S)) D.non = some (.bl false) from rfl]
      walk_at "zz"
  · rintro g rfl
    walk_at "zz"
    rewrite [dLc_filt D.int (xs := S) (T := fun p => decide (at_ dl p = none)) (F := D.int)]
    case hf => rfl
    case hi => walk_at "zz"; rfl
    case hl => omega
    case h =>
      intro a ha
      have := hS.2 a ha
      refine ⟨_, dName_ok rfl, ?_, fun hT => ?_⟩
      · walk_at "zz"
      · walk_at "zz"
    rw [show ((S.filter fun p => decide (at_ dl p = none)).map D.int) = iL (S.filter fun p => decide (at_ dl p = none)) from rfl]
    walk_at "zz"
    rw [ek]
    walk_at "zz"
    refine while_then (C := fun o => Gets (outW o) _) (FoundW caps hs dl S) hs.length (fun i g => ∃ (tk : Tk) (wl : List Int) (p8 p9 p10 : Option Wd), g = [some (.v (poolD c caps hs)), some (.v (.lst (dl.map opD))), some (.v pcs), some (.v (.lst (iL S))), some (.o (.lst (iL wl))), some (.v (.dct kvs)), some (.o (.dct (tkD tk))), some (.v (.int (i : Int))), p8, p9, p10] ∧
      Bfs caps hs dl S tk wl ∧ (∀ (j : Nat), j < i → ∀ n : Nat, wl[j]? = some (n : Int) → ∀ q ∈ heldP caps (hs[n]?.getD []), q ∈ keys tk) ∧ i ≤ wl.length ∧ tk.length ≤ 150 * i) ⟨[], _, _, _, _, rfl, Bfs.new hS hl, fun j hj => by omega, Nat.zero_le _, Nat.zero_le _⟩ (by omega) ?_ ?_ ?_
    · rintro i g ⟨tk, wl, p8, p9, p10, rfl, b, hc, hi, ht⟩
      have hwl := b.wn.len
      walk_at "zz"
      refine ⟨_, rfl, fun hb => ?_⟩
      have hlt : i < wl.length := by have := of_decide_eq_true hb; omega
      refine ⟨by omega, ?_⟩
      obtain ⟨n, en, hnl⟩ : ∃ n : Nat, wl[i]? = some (n : Int) ∧ n < hs.length := by
        have e := List.getElem?_eq_getElem hlt
        have := b.wn.2 _ (List.mem_of_getElem? e)
        exact ⟨(wl[i]).toNat, by rw [e]; congr 1; omega, by omega⟩
      walk_at "zz"
      rw [show at_ wl (i : Int) = (n : Int) from at_eq rfl en, held_pairs_P c ok hnl]
      walk_at "zz"
      have hla : (heldP caps (hs[n]?.getD [])).length ≤ 150 := by
        have e := List.getElem?_eq_getElem hnl
        rw [e]
        have ha := ok.asc _ (List.mem_of_getElem? e)
        have h1 := (Asc.hold ha).len
        have h2 := ok.s12
        have h3 := heldP_len caps hs[n]
        have : hs[n].length * hs[n].length ≤ 12 * 12 := Nat.mul_le_mul (by omega) (by omega)
        show (heldP caps hs[n]).length ≤ 150
        omega
      have hin : ∀ q ∈ heldP caps (hs[n]?.getD []), InR caps q := fun q hq => by
        have e := List.getElem?_eq_getElem hnl
        rw [e] at hq
        exact held_in (ok.asc _ (List.mem_of_getElem? e)) hq
      refine gen_each (C := fun o => Turn o _ _ _) prD _ (FoundW caps hs dl S) (fun _ => False) (fun i2 g => ∃ (tk : Tk) (wl : List Int) (p9 p10 : Option Wd), g = [some (.v (poolD c caps hs)), some (.v (.lst (dl.map opD))), some (.v pcs), some (.v (.lst (iL S))), some (.o (.lst (iL wl))), some (.v (.dct kvs)), some (.o (.dct (tkD tk))), some (.v (.int (i : Int))), some (.v (.int (n : Int))), p9, p10] ∧
        Bfs caps hs dl S tk wl ∧ (∀ (j : Nat), j < i → ∀ n : Nat, wl[j]? = some (n : Int) → ∀ q ∈ heldP caps (hs[n]?.getD []), q ∈ keys tk) ∧ wl[i]? = some (n : Int) ∧ (∀ (l : Nat) (q : Pr), l < i2 → (heldP caps (hs[n]?.getD []))[l]? = some q → q ∈ keys tk) ∧ tk.length ≤ 150 * i + i2) ⟨tk, wl, _, _, rfl, b, hc, en, fun l q z => by omega, ht⟩ ?_ ?_ (fun _ z => z.elim) (fun w z => turn_rt z)
      · rintro i2 q g hq ⟨tk, wl, p9, p10, rfl, b, hc, en, hh, ht⟩
        have hqm := List.mem_of_getElem? hq
        have hi2 := (List.getElem?_eq_some_iff.mp hq).1
        have hwl := b.wn.len
        have hil := (List.getElem?_eq_some_iff.mp en).1
        have htk : (tkD tk).length < 100000 := by unfold tkD; rw [List.length_map]; omega
        have hsl : (seatsOf 0 dl q).length ≤ 1000 := by rw [seatsOf_len]; have := List.count_le_length (a := some q) (l := dl); omega
        refine ⟨_, dName_ok rfl, ?_⟩
        walk_at "zz"
        rw [getK_in]
        refine if_end (C := fun o => Turn o _ _ _) (fun hb => ?_) fun hb => ?_
        · have hnk : q ∉ keys tk := fun z => by rw [decide_eq_true z] at hb; cases hb
          walk_at "zz"
          rw [setK_tk _ hnk, sk.at_, room_P c (hin q hqm)]
          walk_at "zz"
          rw [seatsOf_len]
          have T := b.tree.grow hnk hnl hqm (b.wi n (List.mem_of_getElem? en))
          refine if_cut (C := fun o => Turn o _ _ _) (fun hb => ?_) fun hb => ?_
          · walk_at "zz"
            obtain ⟨sts, e1, e2, e3, e4⟩ := walk_to_spec T hl (by omega) (by rw [List.length_append, List.length_singleton]; omega) (j := tk.length) (q0 := q) (p0 := (n : Int)) (by rw [List.getElem?_append_right (Nat.le_refl _), Nat.sub_self]; rfl)
            rw [e1]
            walk_at "zz"
            refine turn_rt (.inr ⟨sts, rfl, ?_, e3, e4⟩)
            unfold dueB
            rw [e2]
            exact hb
          · walk_at "zz"
            rw [app_i]
            have hf : roomOf caps q ≤ (dl.count (some q) : Nat) := by have := of_decide_eq_false hb; omega
            refine turn_nx ⟨_, _, _, _, rfl, b.more hl hnk (List.mem_of_getElem? en) hqm hf, fun j hj m hm q' hq' => ?_, ?_, fun l q' hl2 hq' => ?_, by rw [List.length_append, List.length_singleton]; omega⟩
            · rw [List.getElem?_append_left (by omega)] at hm
              unfold keys
              rw [List.map_append]
              exact List.mem_append_left _ (hc j hj m hm q' hq')
            · rw [List.getElem?_append_left hil]; exact en
            · unfold keys
              rw [List.map_append]
              by_cases hx : l < i2
              · exact List.mem_append_left _ (hh l q' hx hq')
              · have : l = i2 := by omega
                subst this
                rw [hq] at hq'
                cases hq'
                exact List.mem_append_right _ (by simp)
        · have hk : q ∈ keys tk := by
            by_cases z : q ∈ keys tk
            · exact z
            · rw [decide_eq_false z] at hb; cases hb
          walk_at "zz"
          refine turn_nx ⟨_, _, _, _, rfl, b, hc, en, fun l q' hl2 hq' => ?_, by omega⟩
          by_cases hx : l < i2
          · exact hh l q' hx hq'
          · have : l = i2 := by omega
            subst this
            rw [hq] at hq'
            cases hq'
            exact hk
      · rintro g ⟨tk, wl, p9, p10, rfl, b, hc, en, hh, ht⟩
        walk_at "zz"
        refine turn_nx ⟨_, _, _, _, _, rfl, b, fun j hj m hm q hq => ?_, (List.getElem?_eq_some_iff.mp en).1, by omega⟩
        by_cases hx : j < i
        · exact hc j hx m hm q hq
        · have : j = i := by omega
          subst this
          rw [en] at hm
          have : n = m := by have := Option.some.inj hm; omega
          subst this
          obtain ⟨l, hl2⟩ := List.mem_iff_getElem?.mp hq
          exact hh l q (List.getElem?_eq_some_iff.mp hl2).1 hl2
    · rintro i g ⟨tk, wl, p8, p9, p10, rfl, b, hc, hi, ht⟩ hf
      have hwl := b.wn.len
      walk_at "zz"
      have hge : ¬ i < wl.length := by
        revert hf
        walk_at "zz"
        intro hf
        have := of_decide_eq_false (Option.some.inj hf)
        omega
      refine ⟨_, rfl, .inl ⟨rfl, keys tk, b.stuck fun n hn => ?_⟩⟩
      obtain ⟨j, hj⟩ := List.mem_iff_getElem?.mp hn
      exact hc j (by have := (List.getElem?_eq_some_iff.mp hj).1; omega) n hj
    · exact fun w z => ⟨w, rfl, z⟩
end Zc
end

section
set_option Elab.async false
set_option linter.all false
set_option maxRecDepth 100000
set_option maxHeartbeats 2000000
/-! Lots and places: what a dealing can reach, and what a failed search shows. -/
namespace Zc
open PySem L2 Zk
theorem nodup_sub {α : Type} [DecidableEq α] : ∀ {l1 l2 : List α}, l1.Nodup → (∀ x ∈ l1, x ∈ l2) → l1.length ≤ l2.length
  | [], _, _, _ => Nat.zero_le _
  | a :: l, l2, n, h => by
    have ha := h a List.mem_cons_self
    have hn := List.nodup_cons.mp n
    have := nodup_sub (l2 := l2.erase a) hn.2 fun x hx => (List.mem_erase_of_ne (fun z => hn.1 (by rw [← z]; exact hx))).mpr (h x (List.mem_cons_of_mem _ hx))
    rw [List.length_erase_of_mem ha] at this
    have : 0 < l2.length := List.length_pos_of_mem ha
    rw [List.length_cons]
    omega
def sumP (g : Pr → Int) : List Pr → Int
  | [] => 0
  | q :: r => g q + sumP g r
theorem sumP_mono {g g' : Pr → Int} : ∀ {P : List Pr}, (∀ q ∈ P, g q ≤ g' q) → sumP g P ≤ sumP g' P
  | [], _ => Int.le_refl _
  | q :: r, h => by
    have := sumP_mono (P := r) fun x hx => h x (List.mem_cons_of_mem _ hx)
    have := h q List.mem_cons_self
    unfold sumP
    omega
def cnt (X : List Int) (f : Int → Option Pr) (q : Pr) : Nat := (X.filter fun p => decide (f p = some q)).length
theorem split_len {α : Type} (X : List α) (T : α → Bool) : X.length = (X.filter T).length + (X.filter fun x => !T x).length := by
  induction X with
  | nil => rfl
  | cons x X ih =>
    rw [List.filter_cons, List.filter_cons]
    cases h : T x <;> simp <;> omega
theorem cnt_sub {X : List Int} {f : Int → Option Pr} {q : Pr} (T : Int → Bool) : cnt (X.filter T) f q ≤ cnt X f q := by
  unfold cnt
  rw [List.filter_filter]
  induction X with
  | nil => exact Nat.le_refl _
  | cons x X ih =>
    rw [List.filter_cons, List.filter_cons]
    cases T x <;> cases decide (f x = some q) <;> simp <;> omega
theorem cnt_all {f : Int → Option Pr} : ∀ (P : List Pr) (X : List Int), (∀ x ∈ X, ∃ q ∈ P, f x = some q) → (X.length : Int) ≤ sumP (fun q => (cnt X f q : Int)) P
  | [], X, h => by
    cases X with
    | nil => exact Int.le_refl _
    | cons x X => obtain ⟨q, z, _⟩ := h x List.mem_cons_self; cases z
  | q :: P, X, h => by
    have e := split_len X fun p => decide (f p = some q)
    have ih := cnt_all P (X.filter fun x => !decide (f x = some q)) fun x hx => by
      obtain ⟨h1, h2⟩ := List.mem_filter.mp hx
      obtain ⟨q', h3, h4⟩ := h x h1
      rcases List.mem_cons.mp h3 with z | z
      · rw [h4, z] at h2; simp at h2
      · exact ⟨q', z, h4⟩
    have := sumP_mono (P := P) (g := fun q' => (cnt (X.filter fun x => !decide (f x = some q)) f q' : Int)) (g' := fun q' => (cnt X f q' : Int)) fun q' _ => Int.ofNat_le.mpr (cnt_sub _)
    unfold sumP
    show (X.length : Int) ≤ ((X.filter fun p => decide (f p = some q)).length : Int) + _
    omega
theorem cnt_le_all {f : Int → Option Pr} : ∀ (P : List Pr) (X : List Int), P.Nodup → sumP (fun q => (cnt X f q : Int)) P ≤ (X.length : Int)
  | [], X, _ => by unfold sumP; omega
  | q :: P, X, hn => by
    have e := split_len X fun p => decide (f p = some q)
    have hn := List.nodup_cons.mp hn
    have ih := cnt_le_all (f := f) P (X.filter fun x => !decide (f x = some q)) hn.2
    have := sumP_mono (P := P) (g := fun q' => (cnt X f q' : Int)) (g' := fun q' => (cnt (X.filter fun x => !decide (f x = some q)) f q' : Int)) fun q' hq' => by
      have ne : q' ≠ q := fun z => hn.1 (by rw [← z]; exact hq')
      have : cnt X f q' = cnt (X.filter fun x => !decide (f x = some q)) f q' := by
        unfold cnt
        rw [List.filter_filter]
        congr 1
        refine List.filter_congr fun x _ => ?_
        by_cases z : f x = some q'
        · have : f x ≠ some q := fun y => ne (Option.some.inj (z.symm.trans y))
          simp [z, ne]
        · simp [z]
      rw [this]
      exact Int.le_refl _
    unfold sumP
    show ((X.filter fun p => decide (f p = some q)).length : Int) + _ ≤ _
    omega
/-! ### where a word stands in a dealing -/
def idxOf : Nat → List (Option Pr) → Option Pr → List Int
  | _, [], _ => []
  | n, x :: r, o => if x = o then (n : Int) :: idxOf (n + 1) r o else idxOf (n + 1) r o
theorem idxOf_cons (n : Nat) (x : Option Pr) (r : List (Option Pr)) (o : Option Pr) : idxOf n (x :: r) o = if x = o then (n : Int) :: idxOf (n + 1) r o else idxOf (n + 1) r o := rfl
theorem idxOf_mem {o : Option Pr} {x : Int} : ∀ {dl : List (Option Pr)} {n : Nat}, x ∈ idxOf n dl o ↔ ∃ p : Nat, x = ((n + p : Nat) : Int) ∧ dl[p]? = some o
  | [], n => by unfold idxOf; simp
  | y :: r, n => by
    have ih := idxOf_mem (o := o) (x := x) (dl := r) (n := n + 1)
    have key : (∃ p : Nat, x = ((n + p : Nat) : Int) ∧ (y :: r)[p]? = some o) ↔ (x = (n : Int) ∧ y = o) ∨ ∃ p : Nat, x = ((n + 1 + p : Nat) : Int) ∧ r[p]? = some o := by
      constructor
      · rintro ⟨p, h1, h2⟩
        cases p with
        | zero => exact .inl ⟨by simpa using h1, by simpa using h2⟩
        | succ p => exact .inr ⟨p, by rw [h1]; congr 1; omega, by simpa using h2⟩
      · rintro (⟨h1, h2⟩ | ⟨p, h1, h2⟩)
        · exact ⟨0, by simpa using h1, by simpa using h2⟩
        · exact ⟨p + 1, by rw [h1]; congr 1; omega, by simpa using h2⟩
    rw [key, ← ih, idxOf_cons]
    split
    · rename_i h
      rw [List.mem_cons]
      simp [h]
    · rename_i h
      simp [h]
theorem idxOf_len (o : Option Pr) : ∀ (dl : List (Option Pr)) (n : Nat), (idxOf n dl o).length = dl.count o
  | [], _ => rfl
  | y :: r, n => by
    rw [List.count_cons, idxOf_cons]
    split
    · rename_i h
      rw [List.length_cons, idxOf_len o r, h]; simp
    · rename_i h
      rw [idxOf_len o r]
      have : (y == o) = false := by rw [beq_eq_false_iff_ne]; exact h
      rw [this]; simp
theorem idxOf_nodup (o : Option Pr) : ∀ (dl : List (Option Pr)) (n : Nat), (idxOf n dl o).Nodup
  | [], _ => List.nodup_nil
  | y :: r, n => by
    rw [idxOf_cons]
    split
    · refine List.nodup_cons.mpr ⟨fun h => ?_, idxOf_nodup o r (n + 1)⟩
      obtain ⟨p, h1, _⟩ := idxOf_mem.mp h
      omega
    · exact idxOf_nodup o r (n + 1)
theorem idx0 {o : Option Pr} {x : Int} {dl : List (Option Pr)} : x ∈ idxOf 0 dl o ↔ ∃ p : Nat, x = (p : Int) ∧ dl[p]? = some o := by
  rw [idxOf_mem]
  exact ⟨fun ⟨p, h1, h2⟩ => ⟨p, by rw [h1]; congr 1; omega, h2⟩, fun ⟨p, h1, h2⟩ => ⟨p, by rw [h1]; congr 1; omega, h2⟩⟩
theorem at_of {dl : List (Option Pr)} {p : Nat} (h : p < dl.length) : dl[p]? = some (at_ dl (p : Int)) := by
  have := at_get (xs := dl) (k := (p : Int)) (by omega) (by omega)
  rw [Int.toNat_natCast] at this
  exact this
/-- pieces that stand at o, among X -/
theorem filt_le {dl : List (Option Pr)} {X : List Int} {n : Nat} (hX : Hold n X) (hl : dl.length = n) (o : Option Pr) : (X.filter fun p => decide (at_ dl p = o)).length ≤ dl.count o := by
  rw [← idxOf_len o dl 0]
  refine nodup_sub (hX.1.sublist List.filter_sublist) fun x hx => ?_
  obtain ⟨h1, h2⟩ := List.mem_filter.mp hx
  have := hX.2 x h1
  refine idx0.mpr ⟨x.toNat, by omega, ?_⟩
  rw [at_of (by omega), show ((x.toNat : Nat) : Int) = x by omega, of_decide_eq_true h2]
theorem filt_ge {dl : List (Option Pr)} {X : List Int} (o : Option Pr) (h : ∀ m : Nat, dl[m]? = some o → (m : Int) ∈ X) : dl.count o ≤ (X.filter fun p => decide (at_ dl p = o)).length := by
  rw [← idxOf_len o dl 0]
  refine nodup_sub (idxOf_nodup o dl 0) fun x hx => ?_
  obtain ⟨p, rfl, h2⟩ := idx0.mp hx
  exact List.mem_filter.mpr ⟨h p h2, decide_eq_true (at_eq rfl h2)⟩
/-! ### pairs, places -/
def pairsP (n : Nat) : List Pr := (List.range n).flatMap fun a => (List.range (n - (a + 1))).map fun j => ((a : Int), ((a + 1 + j : Nat) : Int))
theorem pairsP_prD (n : Nat) : pairsL n = (pairsP n).map prD := by
  unfold pairsL rowP pairsP
  rw [List.map_flatMap]
  congr 1
  funext a
  rw [List.map_map]
  rfl
theorem pairsP_mem {n : Nat} {q : Pr} : q ∈ pairsP n ↔ 0 ≤ q.1 ∧ q.1 < q.2 ∧ q.2 < (n : Int) := by
  unfold pairsP
  rw [List.mem_flatMap]
  constructor
  · rintro ⟨a, ha, h⟩
    obtain ⟨j, hj, rfl⟩ := List.mem_map.mp h
    rw [List.mem_range] at ha hj
    exact ⟨by simp, by simp; omega, by simp; omega⟩
  · rintro ⟨h1, h2, h3⟩
    obtain ⟨x, y⟩ := q
    simp only at h1 h2 h3
    refine ⟨x.toNat, List.mem_range.mpr (by omega), List.mem_map.mpr ⟨(y - x - 1).toNat, List.mem_range.mpr (by omega), ?_⟩⟩
    ext <;> simp <;> omega
theorem pairsP_nodup (n : Nat) : (pairsP n).Nodup := by
  unfold pairsP List.Nodup
  rw [List.pairwise_flatMap]
  refine ⟨fun a _ => ?_, ?_⟩
  · rw [List.pairwise_map]
    exact List.nodup_range.imp fun h z => h (by have := (Prod.mk.inj z).2; omega)
  · refine List.nodup_range.imp fun h x hx y hy z => h ?_
    obtain ⟨j, _, rfl⟩ := List.mem_map.mp hx
    obtain ⟨j', _, rfl⟩ := List.mem_map.mp hy
    have := (Prod.mk.inj z).1
    omega
def touch (hs : List (List Int)) (L : List Int) (q : Pr) : Bool := L.any fun p => (at_ hs p).contains q.1 && (at_ hs p).contains q.2
theorem touch_iff {hs : List (List Int)} {L : List Int} {q : Pr} : touch hs L q = true ↔ ∃ p ∈ L, q.1 ∈ at_ hs p ∧ q.2 ∈ at_ hs p := by
  unfold touch
  simp [List.any_eq_true]
def gP (caps : List Int) (hs : List (List Int)) (L : List Int) (q : Pr) : Int := if touch hs L q = true then roomOf caps q else 0
def placesP (caps : List Int) (hs : List (List Int)) (L : List Int) : Int := sumP (gP caps hs L) (pairsP caps.length)
section
variable {caps : List Int} {hs : List (List Int)} {m : Nat}
theorem room_nn (ok : PoolOk caps hs m) {q : Pr} (h : InR caps q) : 0 ≤ roomOf caps q := by
  have f : ∀ k : Int, 0 ≤ k → k < (caps.length : Nat) → 0 ≤ capAt caps k := fun k h0 h1 => by
    unfold capAt
    rw [List.getElem?_eq_getElem (by omega)]
    exact (ok.c0 _ (List.getElem_mem _)).1
  unfold roomOf
  have := f _ h.1.1 h.1.2
  have := f _ h.2.1 h.2.2
  split <;> omega
theorem hs_at {p : Nat} (h : p < hs.length) : hs[p]? = some (at_ hs (p : Int)) := by
  have := at_get (xs := hs) (k := (p : Int)) (by omega) (by omega)
  rw [Int.toNat_natCast] at this
  exact this
/-- a dealing's pieces of a lot have places -/
theorem reach (ok : PoolOk caps hs m) {dl : List (Option Pr)} (dk : DealOk caps hs dl) {L : List Int} (hL : Hold hs.length L) : ((L.filter fun p => !decide (at_ dl p = none)).length : Int) ≤ placesP caps hs L := by
  have hl := dk.len
  have inL : ∀ x ∈ L, dl[x.toNat]? = some (at_ dl x) := fun x hx => by
    have := hL.2 x hx
    exact at_get (by omega) (by omega)
  have hol : ∀ x ∈ L, ∀ q, at_ dl x = some q → q.1 ∈ at_ hs x ∧ q.2 ∈ at_ hs x ∧ q.1 < q.2 ∧ InR caps q := fun x hx q e => by
    have h1 := inL x hx
    rw [e] at h1
    obtain ⟨h, h2, h3⟩ := dk.held _ _ h1
    have ha := ok.asc h (List.mem_of_getElem? h2)
    have := (heldP_mem ha q).mp h3
    have h0 := hL.2 x hx
    rw [show at_ hs x = h from at_eq (m := x.toNat) (by omega) h2]
    exact ⟨this.1, this.2.1, this.2.2.1, held_in ha h3⟩
  have hX : Hold hs.length (L.filter fun p => !decide (at_ dl p = none)) := ⟨hL.1.sublist List.filter_sublist, fun k hk => hL.2 k (List.mem_filter.mp hk).1⟩
  refine Int.le_trans (cnt_all (f := at_ dl) (pairsP caps.length) _ fun x hx => ?_) (sumP_mono fun q hq => ?_)
  · obtain ⟨h1, h2⟩ := List.mem_filter.mp hx
    cases e : at_ dl x with
    | none => rw [e] at h2; simp at h2
    | some q =>
      obtain ⟨_, _, h3, h4⟩ := hol x h1 q e
      exact ⟨q, pairsP_mem.mpr ⟨h4.1.1, h3, h4.2.2⟩, rfl⟩
  · have hq2 := pairsP_mem.mp hq
    have hr := room_nn ok (q := q) ⟨⟨hq2.1, by omega⟩, ⟨by omega, hq2.2.2⟩⟩
    show (cnt _ _ _ : Int) ≤ gP caps hs L q
    by_cases z : cnt (L.filter fun p => !decide (at_ dl p = none)) (at_ dl) q = 0
    · rw [z]; unfold gP; split <;> omega
    · have hle : cnt (L.filter fun p => !decide (at_ dl p = none)) (at_ dl) q ≤ dl.count (some q) := filt_le hX hl (some q)
      obtain ⟨x, hx⟩ := List.exists_mem_of_length_pos (l := (L.filter fun p => !decide (at_ dl p = none)).filter fun p => decide (at_ dl p = some q)) (Nat.pos_of_ne_zero z)
      obtain ⟨h1, h2⟩ := List.mem_filter.mp hx
      have h3 := (List.mem_filter.mp h1).1
      obtain ⟨a1, a2, _, _⟩ := hol x h3 q (of_decide_eq_true h2)
      unfold gP
      rw [if_pos (touch_iff.mpr ⟨x, h3, a1, a2⟩)]
      rcases dk.room q with h | h
      · omega
      · omega
/-- the lot of a failed search -/
def lotT (dl : List (Option Pr)) (S : List Int) (K : List Pr) (n : Nat) : Bool := match at_ dl (n : Int) with
  | none => S.contains (n : Int)
  | some q => K.contains q
theorem stuck_lot (ok : PoolOk caps hs m) {dl : List (Option Pr)} (hl : dl.length = hs.length) {S : List Int} {K : List Pr} (st : Stuck caps hs dl S K) :
    placesP caps hs (pickI hs.length (lotT dl S K)) + ((pickI hs.length (fun n => decide (at_ dl (n : Int) = none) && S.contains (n : Int))).length : Int) ≤ ((pickI hs.length (lotT dl S K)).length : Int) := by
  have hL : Hold hs.length _ := Asc.hold (pickI_asc hs.length (lotT dl S K))
  have mem : ∀ x, x ∈ pickI hs.length (lotT dl S K) ↔ ∃ n : Nat, x = (n : Int) ∧ n < hs.length ∧ lotT dl S K n = true := fun x => pickI_mem
  generalize hLe : pickI hs.length (lotT dl S K) = L at hL mem
  have e := split_len L fun p => decide (at_ dl p = none)
  have hst : (pickI hs.length (fun n => decide (at_ dl (n : Int) = none) && S.contains (n : Int))).length ≤ (L.filter fun p => decide (at_ dl p = none)).length := by
    refine nodup_sub (Asc.hold (pickI_asc _ _)).1 fun x hx => ?_
    obtain ⟨n, rfl, h1, h2⟩ := pickI_mem.mp hx
    rw [Bool.and_eq_true] at h2
    refine List.mem_filter.mpr ⟨(mem _).mpr ⟨n, rfl, h1, ?_⟩, h2.1⟩
    unfold lotT
    rw [of_decide_eq_true h2.1]
    exact h2.2
  have hpl : placesP caps hs L ≤ ((L.filter fun x => !decide (at_ dl x = none)).length : Int) := by
    refine Int.le_trans (sumP_mono (g' := fun q => (cnt (L.filter fun x => !decide (at_ dl x = none)) (at_ dl) q : Int)) fun q hq => ?_) (cnt_le_all _ _ (pairsP_nodup _))
    have hq2 := pairsP_mem.mp hq
    show gP caps hs L q ≤ (cnt _ _ _ : Int)
    unfold gP
    split
    · rename_i ht
      obtain ⟨x, hx, h1, h2⟩ := touch_iff.mp ht
      obtain ⟨n, rfl, hn, hT⟩ := (mem x).mp hx
      by_cases hr : 0 < roomOf caps q
      · have eh := hs_at (hs := hs) hn
        have hh : q ∈ heldP caps (hs[n]?.getD []) := by
          rw [eh]
          exact (heldP_mem (ok.asc _ (List.mem_of_getElem? eh)) q).mpr ⟨h1, h2, hq2.2.1, hr⟩
        have ed := at_of (dl := dl) (p := n) (by omega)
        have hK : q ∈ K := by
          unfold lotT at hT
          cases eo : at_ dl (n : Int) with
          | none =>
            rw [eo] at hT ed
            exact st.st n (by simpa using hT) ed q hh
          | some q' =>
            rw [eo] at hT ed
            exact st.sat n q' ed (by simpa using hT) q hh
        have := st.full q hK
        have hc : dl.count (some q) ≤ cnt (L.filter fun x => !decide (at_ dl x = none)) (at_ dl) q := filt_ge (some q) fun k hk => by
          have hkl := (List.getElem?_eq_some_iff.mp hk).1
          have ek : at_ dl (k : Int) = some q := at_eq rfl hk
          refine List.mem_filter.mpr ⟨(mem _).mpr ⟨k, rfl, by omega, ?_⟩, by rw [ek]; rfl⟩
          unfold lotT
          rw [ek]
          simpa using hK
        omega
      · omega
    · omega
  rw [hLe] at *
  omega
end
end Zc
end

section
set_option Elab.async false
set_option linter.all false
set_option maxRecDepth 100000
set_option maxHeartbeats 2000000
/-! The greatest number that can be dealt, as the laws count it. -/
namespace Zc
open PySem L2 Zk
def lotsL : Nat → List (List Int)
  | 0 => [[]]
  | n + 1 => lotsL n ++ (lotsL n).map fun l => l ++ [(n : Int)]
theorem pickI_succ (n : Nat) (T : Nat → Bool) : pickI (n + 1) T = pickI n T ++ if T n = true then [(n : Int)] else [] := by
  unfold pickI
  rw [List.range_succ, List.filter_append, List.map_append]
  congr 1
  cases h : T n <;> simp [List.filter_cons, h]
theorem lotsL_pick (T : Nat → Bool) : ∀ n : Nat, pickI n T ∈ lotsL n
  | 0 => List.mem_singleton.mpr rfl
  | n + 1 => by
    have ih := lotsL_pick T n
    rw [pickI_succ]
    unfold lotsL
    rw [List.mem_append]
    cases h : T n with
    | false => rw [if_neg (by simp), List.append_nil]; exact .inl ih
    | true => rw [if_pos rfl]; exact .inr (List.mem_map.mpr ⟨_, ih, rfl⟩)
theorem lotsL_hold : ∀ {n : Nat} {L : List Int}, L ∈ lotsL n → Hold n L
  | 0, L, h => by
    rw [List.mem_singleton.mp h]
    exact ⟨List.nodup_nil, fun k hk => by cases hk⟩
  | n + 1, L, h => by
    unfold lotsL at h
    rcases List.mem_append.mp h with h | h
    · have := lotsL_hold h
      exact ⟨this.1, fun k hk => by have := this.2 k hk; omega⟩
    · obtain ⟨l, h1, rfl⟩ := List.mem_map.mp h
      have ih := lotsL_hold h1
      refine ⟨?_, fun k hk => ?_⟩
      · rw [List.nodup_append]
        refine ⟨ih.1, by simp, fun a ha b hb z => ?_⟩
        have := (ih.2 a ha).2
        rw [List.mem_singleton.mp hb] at z
        omega
      · rcases List.mem_append.mp hk with z | z
        · have := ih.2 k z; omega
        · rw [List.mem_singleton.mp z]; omega
theorem lotsL_len : ∀ n : Nat, (lotsL n).length = 2 ^ n
  | 0 => rfl
  | n + 1 => by
    unfold lotsL
    rw [List.length_append, List.length_map, lotsL_len n, Nat.pow_succ]
    omega
def lackStep (caps : List Int) (hs : List (List Int)) (a : Int) (L : List Int) : Int := if (L.length : Int) - placesP caps hs L > a then (L.length : Int) - placesP caps hs L else a
def lackP (caps : List Int) (hs : List (List Int)) : Int := (lotsL hs.length).foldl (lackStep caps hs) 0
section
variable {caps : List Int} {hs : List (List Int)} {m : Nat}
theorem lack_fold : ∀ (Ls : List (List Int)) (a : Int), a ≤ Ls.foldl (lackStep caps hs) a ∧ (∀ L ∈ Ls, (L.length : Int) - placesP caps hs L ≤ Ls.foldl (lackStep caps hs) a) ∧ (Ls.foldl (lackStep caps hs) a = a ∨ ∃ L ∈ Ls, Ls.foldl (lackStep caps hs) a = (L.length : Int) - placesP caps hs L)
  | [], a => ⟨Int.le_refl _, fun L h => (by cases h), .inl rfl⟩
  | L :: Ls, a => by
    obtain ⟨h1, h2, h3⟩ := lack_fold Ls (lackStep caps hs a L)
    have hs1 : a ≤ lackStep caps hs a L := by unfold lackStep; split <;> omega
    have hs2 : (L.length : Int) - placesP caps hs L ≤ lackStep caps hs a L := by unfold lackStep; split <;> omega
    have hs3 : lackStep caps hs a L = a ∨ lackStep caps hs a L = (L.length : Int) - placesP caps hs L := by unfold lackStep; split <;> simp
    rw [List.foldl_cons]
    refine ⟨by omega, fun L' h => ?_, ?_⟩
    · rcases List.mem_cons.mp h with z | z
      · rw [z]; omega
      · exact h2 L' z
    · rcases h3 with z | ⟨L', z1, z2⟩
      · rcases hs3 with y | y
        · exact .inl (z.trans y)
        · exact .inr ⟨L, List.mem_cons_self, z.trans y⟩
      · exact .inr ⟨L', List.mem_cons_of_mem _ z1, z2⟩
/-- how many are dealt -/
def dealt (dl : List (Option Pr)) : Int := (dl.length : Int) - (dl.count none : Nat)
/-! ### some of the pieces -/
end
end Zc
end

section
set_option Elab.async false
set_option linter.all false
set_option maxRecDepth 100000
set_option maxHeartbeats 2000000
/-! Who can be dealt: what a walk shows and what a failed search shows. -/
namespace Zc
open PySem L2 Zk
section
variable {caps : List Int} {hs : List (List Int)} {m : Nat}
structure Mode (caps : List Int) (hs : List (List Int)) (M : Int) : Prop where
  ge : ∀ dl : List (Option Pr), DealOk caps hs dl → dealt dl ≤ M
  le : ∀ (dl : List (Option Pr)) (S : List Int) (K : List Pr), DealOk caps hs dl → Stuck caps hs dl S K → (∀ n : Nat, n < hs.length → (n : Int) ∈ S) → M ≤ dealt dl
structure Able (caps : List Int) (hs : List (List Int)) (dl : List (Option Pr)) (ab : List Int) : Prop where
  walk : ∀ (sts : Steps) (s : Int × Pr), dueB caps hs dl sts = true → sts.head? = some s → s.1 ∈ ab
  stuck : ∀ (S : List Int) (K : List Pr) (n : Nat), Stuck caps hs dl S K → (n : Int) ∈ S → n < hs.length → (n : Int) ∉ ab
theorem walk_rng {dl : List (Option Pr)} {sts : Steps} (hd : dueB caps hs dl sts = true) : ∀ s ∈ sts, 0 ≤ s.1 ∧ s.1 < (hs.length : Nat) := fun s hs' => by
  unfold dueB at hd
  split at hd
  · rename_i q hw
    obtain ⟨p, h, h1, h2, _⟩ := walkB_mem hw s hs'
    have := (List.getElem?_eq_some_iff.mp h2).1
    omega
  · cases hd
theorem taken_still {dl : List (Option Pr)} (hl : dl.length = hs.length) {sts : Steps} (hd : dueB caps hs dl sts = true) {n : Nat} (hn : n < hs.length) (h : at_ dl (n : Int) ≠ none ∨ ∃ s, sts.head? = some s ∧ s.1 = (n : Int)) : at_ (putAll dl sts) (n : Int) ≠ none := by
  have g := putAll_get sts dl n fun s h => by rw [hl]; exact walk_rng hd s h
  by_cases z : (n : Int) ∈ sts.map (·.1)
  · obtain ⟨q, e⟩ := g.1 z
    rw [show at_ (putAll dl sts) (n : Int) = some q from at_eq rfl e]
    simp
  · have e := g.2 z
    rcases h with h | ⟨s, h1, h2⟩
    · rw [at_of (dl := dl) (by rw [hl]; exact hn)] at e
      rw [show at_ (putAll dl sts) (n : Int) = at_ dl (n : Int) from at_eq rfl e]
      exact h
    · refine absurd (List.mem_map.mpr ⟨s, ?_, h2⟩) z
      cases sts with
      | nil => cases h1
      | cons t r => cases h1; exact List.mem_cons_self
/-! ### pools that a dealing fills -/
structure Rich (caps : List Int) (hs : List (List Int)) : Prop where
  ex : ∃ dl : List (Option Pr), IsDeal caps hs dl ∧ ∀ (p : Nat) (h : List Int), hs[p]? = some h → (dl[p]? = some none ↔ h.length ≤ 1)
end
end Zc
end

section
set_option Elab.async false
set_option linter.all false
set_option maxRecDepth 100000
set_option maxHeartbeats 2000000
/-! Greatest dealings, as the program makes them. -/
namespace Zc
open PySem L2 Zk
def t_take_walk : SF :=
 (sSeq (sAsgO (dN listD (aCons (dVar 0) aNil)) 2)
 (sSeq (sFor (dItems (dVar 1)) (dgTup 2 (dgCons (dName 3) (dgCons (dName 4) dgNil)))
 (sSetI 2 (dVar 3) (dVar 4)))
 (sRetV 2)))
def g_take_walk : PF := runG 3 (t_take_walk)
local macro_rules | `(tactic| walk_at "zs") => `(tactic| simp only [beq_self_eq_true, Bool.or_false, Bool.false_or, Bool.true_or, Bool.or_true, Bool.and_false, Bool.false_and, Bool.true_and, Bool.and_true, Zc.isi_ii, Zc.isi_ib, Zc.isi_tt, Zc.isi_ll, Zc.rowsT_len, Zc.rowsL_len, Zc.is_integer_call, Zc.ix_p0, Zc.ix_p1, dgTup2_a, dgTup3_a, Bool.not_true, Bool.not_false, mul_lz, List.flatten_cons, List.flatten_nil, Int.reduceToNat, add_ll, pow10_12, pow10_18, pow10_39, pow10_41, pow10_59, pow10_60, mkLst_some, mkTup_some, List.length_cons, List.length_nil, Nat.zero_le, Nat.reduceAdd, Nat.reduceLeDiff, call1, callO1, call2, callO2, call3, callO3, call4, callO4, call5, callO5, call6, callO6, ap1_some, ap2_some, apN_some, apC_some, d1_a, d2_a, dN_a, aNil_a, aCons_a, dC_a, dVar_z, dVar_s, tDt_a, apAnd_t, apAnd_f, apOr_t, apOr_f, dAndT_a, dOrT_a, apNot_some, dNotT_a, apAndV_t, apAndV_f, dAndV_a, apOrV_t, apOrV_f, dOrV_a, apIf_t, apIf_f, dIf_a, apCh_t, apCh_f, apChain_some, dChain_a, apSeq_nx, apSeq_rt, apSeq_ct, apSeq_bk, sSeq_a, apIfS_t, apIfS_f, sIf_a, sNext_a, sCont_a, sBreak_a, apRet_some, sRet_a, apRetO_some, sRetO_a, sRetN_a, getO_z, getO_s, apRetV_some, sRetV_a, ltB_z, ltB_s, okSlot_s, apAsg_some, sAsg_a, dName_ok, apG_some, dgCons_a, dgNil_a, apAsgO_some, sAsgO_a, sApp_a, sSetI_a, apFor_some, sFor_a, dItems_a, dRng1_a, dRng2_a, apEn_some, apEn_tup, dEnum_a, sFrz_a, frzs_nil, frzs_cons, frzI_o, frzI_v, frzI_n, frzI_s, frz1_s, frzAll_nil, frzAll_o, frzAll_v, frzAll_n, peekT_a, apPk_int, apPk_bl, apPk_str, apPk_non, peekF_a, dCall_a, toO_o, dCallO_a, dMake_a, Wd_v, Wd_o, dSl_a, apSl_some, oNone_a, oSome_a, apO_some, add_ii, sub_ii, lt_ii, le_ii, gt_ii, ge_ii, eq_ii, ne_ii, neg_i, not_b, bl_b, tru_b, tru_i, tru_l, tru_t, tru_n, len_l, len_t, len_scr, abs_i, int_i, list_l, list_t, tuple_l, tuple_t, min_ii, max_ii, rev_l, items_l, items_t, iL_len, run_a, outW_rt, outW_nx, List.map_cons, List.map_nil, List.replicate, List.append_nil, List.cons_append, List.nil_append, List.set_cons_zero, List.set_cons_succ, Option.map_some])
local macro_rules | `(tactic| walk_at "zd") => `(tactic| first | ((with_reducible show okSlot _ _ = true); simp only [okSlot_s, ltB_z, ltB_s]; done) | omega | assumption | decide | (simp only [List.length_map, List.length_append, List.length_cons, List.length_nil, List.length_range, List.length_set, List.length_reverse, iL_len, Zc.rowsT_len, Zc.rowsL_len] at *; omega))
local macro_rules | `(tactic| walk_at "zz") => `(tactic| simp (disch := walk_at "zd") only [dgTup2_a, dgTup3_a, Bool.not_true, Bool.not_false, mul_lz, List.flatten_cons, List.flatten_nil, Int.reduceToNat, add_ll, pow10_12, pow10_18, pow10_39, pow10_41, pow10_59, pow10_60, mkLst_some, mkTup_some, List.length_cons, List.length_nil, Nat.zero_le, Nat.reduceAdd, Nat.reduceLeDiff, call1, callO1, call2, callO2, call3, callO3, call4, callO4, call5, callO5, call6, callO6, ap1_some, ap2_some, apN_some, apC_some, d1_a, d2_a, dN_a, aNil_a, aCons_a, dC_a, dVar_z, dVar_s, tDt_a, apAnd_t, apAnd_f, apOr_t, apOr_f, dAndT_a, dOrT_a, apNot_some, dNotT_a, apAndV_t, apAndV_f, dAndV_a, apOrV_t, apOrV_f, dOrV_a, apIf_t, apIf_f, dIf_a, apCh_t, apCh_f, apChain_some, dChain_a, apSeq_nx, apSeq_rt, apSeq_ct, apSeq_bk, sSeq_a, apIfS_t, apIfS_f, sIf_a, sNext_a, sCont_a, sBreak_a, apRet_some, sRet_a, apRetO_some, sRetO_a, sRetN_a, getO_z, getO_s, apRetV_some, sRetV_a, ltB_z, ltB_s, okSlot_s, apAsg_some, sAsg_a, dName_ok, apG_some, dgCons_a, dgNil_a, apAsgO_some, sAsgO_a, sApp_a, sSetI_a, apFor_some, sFor_a, dItems_a, dRng1_a, dRng2_a, apEn_some, apEn_tup, dEnum_a, sFrz_a, frzs_nil, frzs_cons, frzI_o, frzI_v, frzI_n, frzI_s, frz1_s, frzAll_nil, frzAll_o, frzAll_v, frzAll_n, peekT_a, apPk_int, apPk_bl, apPk_str, apPk_non, peekF_a, dCall_a, toO_o, dCallO_a, dMake_a, Wd_v, Wd_o, dSl_a, apSl_some, oNone_a, oSome_a, apO_some, add_ii, sub_ii, lt_ii, le_ii, gt_ii, ge_ii, eq_ii, ne_ii, neg_i, not_b, bl_b, tru_b, tru_i, tru_l, tru_t, tru_n, len_l, len_t, len_scr, abs_i, int_i, list_l, list_t, tuple_l, tuple_t, min_ii, max_ii, rev_l, items_l, items_t, iL_len, run_a, outW_rt, outW_nx, List.map_cons, List.map_nil, List.replicate, List.append_nil, List.cons_append, List.nil_append, List.set_cons_zero, List.set_cons_succ, Option.map_some, Int.reduceAdd, Int.reduceMul, Int.reduceSub, Int.reduceNeg, beq_self_eq_true, Bool.or_false, Bool.false_or, Bool.true_or, Bool.or_true, Bool.and_false, Bool.false_and, Bool.true_and, Bool.and_true, Zc.isi_ii, Zc.isi_ib, Zc.isi_tt, Zc.isi_ll, Zc.rowsT_len, Zc.rowsL_len, Zc.is_integer_call, Zc.ix_p0, Zc.ix_p1, apR1_any, Int.toNat_natCast, apR2_some, mod_ii, fdiv_ii, mul_small, apApp_some, ix_at, ix_atT, ix_atI, ix_atIT, ix_atR, ix_atRT, List.length_map, List.length_append, List.length_range, List.length_set, Option.map_none, Option.map_map, decide_true, decide_false, peekO_a, apPkO_i, frz_wo, frz_wv, frz_kk, wipeG_nil, wipeG_cons, orB_s, orB_t, orB_f, andB_s, andB_t, andB_f, orV_s, orV_t, orV_f, andV_s, andV_t, andV_f, apOr_b, apAnd_b, apOrV_b, apAndV_b, apCh_b, Zc.cut_from, Zc.cut_to, in_l, in_t, in_pr, eq_op_op, eq_op_pr, eq_pr_op, eq_pr_pr, ne_op_op, ne_op_pr, ne_pr_op, ne_pr_pr, isnt_op, is_op, pr_0, pr_1, st_0, st_1, inP_pr, ninP_pr, nin_l, isi_prt, len_pr, op_some, prD_eq, ix_lit2, ix_lit3, ix_lit4, ix_lit5, ix_lit6, ix_lit7, ix_lit8, ix_lit9, ix_lit10, ix_lit11, ix_lit12, ix_lit13, ix_lit14, ix_lit15, setI_i, setI_p, setI_o, setI_n, snoc_i, snoc_r, snoc_p, snoc_n, snoc_o, snoc_pp, snoc_s, eq_ol, ne_ol, eq_pl, ne_pl, eq_sl, ne_sl, eq_il, ne_il, eq_rl, ne_rl, eq_il1, isi_bb, eq_bb, ne_bb, dctAt_o, dctAt_v, dctAt_s, apDget_some, dGetO_a, apPut_some, sPutO_a])
local macro_rules | `(tactic| walk_at "zf") => `(tactic| first | (walk_at "zz"; done) | (walk_at "zz"; rfl) | rfl)
local macro_rules | `(tactic| walk_at "lc") => `(tactic| ((case hf => rfl); (case hi => first | (walk_at "zz"; done) | (walk_at "zz"; rfl) | rfl); (case hl => walk_at "zd"); (case h => (intro a ha; refine ⟨_, dName_ok rfl, ?_, fun hT => ?_⟩ <;> walk_at "zz" <;> rfl))))
local macro_rules | `(tactic| walk_at "lm") => `(tactic| ((case hf => rfl); (case hi => first | (walk_at "zz"; done) | (walk_at "zz"; rfl) | rfl); (case hl => walk_at "zd"); (case h => (intro a ha; refine ⟨_, dName_ok rfl, ?_⟩; walk_at "zz"; rfl))))
def setTk (tk : Tk) (q : Pr) (n : Int) : Tk := if q ∈ keys tk then tk.map (fun e => if e.1 = q then (e.1, n) else e) else tk ++ [(q, n)]
theorem setTk_keys (tk : Tk) (q : Pr) (n : Int) : keys (setTk tk q n) = if q ∈ keys tk then keys tk else keys tk ++ [q] := by
  unfold setTk
  by_cases h : q ∈ keys tk
  · rw [if_pos h, if_pos h]
    unfold keys
    rw [List.map_map]
    refine List.map_congr_left fun e _ => ?_
    show (if e.1 = q then (e.1, n) else e).1 = e.1
    split <;> rfl
  · rw [if_neg h, if_neg h]
    unfold keys
    rw [List.map_append]; rfl
/-- the counts of the first pieces -/
structure Given (dl : List (Option Pr)) (tk : Tk) : Prop where
  kn : (keys tk).Nodup
  val : ∀ e ∈ tk, e.2 = ((dl.count (some e.1) : Nat) : Int)
  no : ∀ q, q ∉ keys tk → dl.count (some q) = 0
  inn : ∀ q ∈ keys tk, some q ∈ dl
theorem Given.get {dl : List (Option Pr)} {tk : Tk} (g : Given dl tk) (q : Pr) : (getK (tkD tk) (prK q)).getD (.int 0) = .int ((dl.count (some q) : Nat) : Int) := by
  rw [getK_tk]
  cases h : tk.find? fun e => decide (e.1 = q) with
  | none =>
    have : q ∉ keys tk := fun z => by
      obtain ⟨e, h1, h2⟩ := List.mem_map.mp z
      exact List.find?_eq_none.mp h e h1 (decide_eq_true h2)
    rw [g.no q this]; rfl
  | some e =>
    have e1 : e.1 = q := of_decide_eq_true (List.find?_some (p := fun e : Pr × Int => decide (e.1 = q)) h)
    have := g.val e (List.mem_of_find?_eq_some h)
    show D.int e.2 = _
    rw [this, e1]
theorem Given.add {dl : List (Option Pr)} {tk : Tk} (g : Given dl tk) (q : Pr) : Given (dl ++ [some q]) (setTk tk q (((dl.count (some q) : Nat) : Int) + 1)) := by
  have cq : ∀ r : Pr, (dl ++ [some q]).count (some r) = dl.count (some r) + if r = q then 1 else 0 := fun r => by
    rw [List.count_append, List.count_singleton]
    congr 1
    by_cases h : r = q
    · rw [if_pos h, h]; simp
    · rw [if_neg h]; simp; exact fun z => h z.symm
  refine ⟨?_, fun e he => ?_, fun r hr => ?_, fun r hr => ?_⟩
  · rw [setTk_keys]
    split
    · exact g.kn
    · rename_i h
      rw [List.nodup_append]
      exact ⟨g.kn, by simp, fun a ha b hb z => h (by simp at hb; rw [← hb, ← z]; exact ha)⟩
  · rw [cq]
    unfold setTk at he
    split at he
    · obtain ⟨e0, h1, rfl⟩ := List.mem_map.mp he
      by_cases z : e0.1 = q
      · rw [if_pos z]
        show _ = ((dl.count (some e0.1) + (if e0.1 = q then 1 else 0) : Nat) : Int)
        rw [if_pos z, z]; omega
      · rw [if_neg z, if_neg z]
        exact g.val e0 h1
    · rename_i hn
      rcases List.mem_append.mp he with h1 | h1
      · have hne : e.1 ≠ q := fun z => hn (List.mem_map.mpr ⟨e, h1, z⟩)
        rw [if_neg hne]
        exact g.val e h1
      · rw [List.mem_singleton.mp h1]
        show _ = ((dl.count (some q) + (if q = q then 1 else 0) : Nat) : Int)
        rw [if_pos rfl]; omega
  · rw [setTk_keys] at hr
    have hr2 : r ∉ keys tk ∧ r ≠ q := by
      split at hr
      · rename_i h; exact ⟨hr, fun z => hr (by rw [z]; exact h)⟩
      · exact ⟨fun z => hr (List.mem_append_left _ z), fun z => hr (List.mem_append_right _ (by simp [z]))⟩
    rw [cq, g.no r hr2.1, if_neg hr2.2]
  · rw [setTk_keys] at hr
    split at hr
    · exact List.mem_append_left _ (g.inn r hr)
    · rcases List.mem_append.mp hr with h | h
      · exact List.mem_append_left _ (g.inn r h)
      · rw [List.mem_singleton.mp h]; exact List.mem_append_right _ (by simp)
theorem Given.skip {dl : List (Option Pr)} {tk : Tk} (g : Given dl tk) : Given (dl ++ [none]) tk := by
  have cq : ∀ r : Pr, (dl ++ [none]).count (some r) = dl.count (some r) := fun r => by
    rw [List.count_append, List.count_singleton]; simp
  exact ⟨g.kn, fun e he => by rw [cq]; exact g.val e he, fun q hq => by rw [cq]; exact g.no q hq, fun q hq => List.mem_append_left _ (g.inn q hq)⟩
section
variable {caps : List Int} {hs : List (List Int)} {m : Nat}
theorem take_walk_spec {dl : List (Option Pr)} {sts : Steps} (h : ∀ s ∈ sts, 0 ≤ s.1 ∧ s.1 < (dl.length : Nat)) (hl : dl.length ≤ 1000) :
    g_take_walk [.lst (dl.map opD), .lst (sts.map stD)] = some (.o (.lst ((putAll dl sts).map opD))) := by
  unfold g_take_walk t_take_walk
  walk_at "zz"
  refine loop_each (C := fun o => outW o = _) stD sts (fun i g => ∃ k3 k4 : Option Wd, g = [some (.v (.lst (dl.map opD))), some (.v (.lst (sts.map stD))), some (.o (.lst ((putAll dl (sts.take i)).map opD))), k3, k4]) ⟨_, _, rfl⟩ ?_ ?_
  · rintro i s g hs ⟨k3, k4, rfl⟩
    have hr := h s (List.mem_of_getElem? hs)
    have hl2 := putAll_len (sts.take i) dl
    refine ⟨_, (dgTup_a rfl).trans rfl, ?_⟩
    walk_at "zz"
    exact step_nx ⟨_, _, by rw [take_succ hs, putAll_snoc]⟩
  · rintro g ⟨k3, k4, rfl⟩
    walk_at "zz"
    rw [List.take_of_length_le (Nat.le_refl _)]
def allI (n : Nat) : List Int := (List.range n).map fun i => ((i : Nat) : Int)
end
end Zc
end

section
set_option Elab.async false
set_option linter.all false
set_option maxRecDepth 100000
set_option maxHeartbeats 2000000
/-! Pieces that can all be dealt; what is taken greedily. -/
namespace Zu
open PySem L2 Zk Zc
def cnt (n : Nat) (T : Nat → Bool) : Nat := (pickI n T).length
theorem cnt_zero (T : Nat → Bool) : cnt 0 T = 0 := rfl
theorem cnt_succ (n : Nat) (T : Nat → Bool) : cnt (n + 1) T = cnt n T + if T n = true then 1 else 0 := by
  unfold cnt
  rw [pickI_succ, List.length_append]
  split <;> rfl
theorem cnt_le {n : Nat} {f g h : Nat → Bool} (H : ∀ i, i < n → f i = true → g i = true ∨ h i = true) : cnt n f ≤ cnt n g + cnt n h := by
  induction n with
  | zero => simp [cnt_zero]
  | succ n ih =>
    have ih := ih fun i hi => H i (by omega)
    have := H n (by omega)
    rw [cnt_succ, cnt_succ, cnt_succ]
    split
    · rename_i z
      rcases this z with y | y
      · rw [if_pos y]; omega
      · rw [if_pos y]; omega
    · omega
theorem cnt_mono {n : Nat} {f g : Nat → Bool} (H : ∀ i, i < n → f i = true → g i = true) : cnt n f ≤ cnt n g := by
  have := cnt_le (n := n) (f := f) (g := g) (h := fun _ => false) fun i hi h => .inl (H i hi h)
  have e : cnt n (fun _ => false) = 0 := by
    clear this H
    induction n with
    | zero => rfl
    | succ n ih => rw [cnt_succ, ih]; rfl
  omega
theorem cnt_congr {n : Nat} {f g : Nat → Bool} (H : ∀ i, i < n → f i = g i) : cnt n f = cnt n g := by
  have h1 := cnt_mono (n := n) (f := f) (g := g) fun i hi h => by rw [← H i hi]; exact h
  have h2 := cnt_mono (n := n) (f := g) (g := f) fun i hi h => by rw [H i hi]; exact h
  omega
theorem cnt_two {n : Nat} {f g h : Nat → Bool} (h1 : ∀ i, i < n → g i = true → f i = true) (h2 : ∀ i, i < n → h i = true → f i = true) (h3 : ∀ i, i < n → g i = true → h i = true → False) : cnt n g + cnt n h ≤ cnt n f := by
  induction n with
  | zero => simp [cnt_zero]
  | succ n ih =>
    have ih := ih (fun i hi => h1 i (by omega)) (fun i hi => h2 i (by omega)) fun i hi => h3 i (by omega)
    have a := h1 n (by omega)
    have b := h2 n (by omega)
    have c := h3 n (by omega)
    rw [cnt_succ, cnt_succ, cnt_succ]
    cases eg : g n with
    | true =>
      cases eh : h n with
      | true => exact (c eg eh).elim
      | false => rw [a eg]; simp; omega
    | false =>
      cases eh : h n with
      | true => rw [b eh]; simp; omega
      | false => simp; omega
def ins (T : Nat → Bool) (p : Nat) : Nat → Bool := fun n => T n || decide (n = p)
theorem ins_iff {T : Nat → Bool} {p n : Nat} : ins T p n = true ↔ T n = true ∨ n = p := by unfold ins; rw [Bool.or_eq_true, decide_eq_true_eq]
/-- a dealing of just the pieces of T -/
structure DealsT (caps : List Int) (hs : List (List Int)) (T : Nat → Bool) (dl : List (Option Pr)) : Prop where
  dk : DealOk caps hs dl
  on : ∀ n, n < hs.length → (T n = true ↔ at_ dl (n : Int) ≠ none)
def IndP (caps : List Int) (hs : List (List Int)) (T : Nat → Bool) : Prop := ∃ dl, DealsT caps hs T dl
section
variable {caps : List Int} {hs : List (List Int)} {m : Nat}
theorem deals_nil : DealsT caps hs (fun _ => false) (List.replicate hs.length none) where
  dk := ⟨List.length_replicate, fun p q h => (by rw [List.getElem?_replicate] at h; split at h <;> cases h), fun q => .inl (List.count_eq_zero.mpr fun z => by have := List.eq_of_mem_replicate z; cases this)⟩
  on := fun n hn => by
    rw [at_eq (m := n) (a := none) rfl (by rw [List.getElem?_replicate, if_pos hn])]
    simp
theorem ind_sub {T T' : Nat → Bool} (h : IndP caps hs T) (s : ∀ n, n < hs.length → T' n = true → T n = true) : IndP caps hs T' := by
  obtain ⟨dl, dk, on⟩ := h
  have hl := dk.len
  have get : ∀ n, n < hs.length → ((List.range hs.length).map fun n => if T' n = true then at_ dl (n : Int) else none)[n]? = some (if T' n = true then at_ dl (n : Int) else none) := fun n hn => by
    rw [List.getElem?_map, List.getElem?_range hn]; rfl
  have some_of : ∀ (n : Nat) (q : Pr), ((List.range hs.length).map fun n => if T' n = true then at_ dl (n : Int) else none)[n]? = some (some q) → dl[n]? = some (some q) := fun n q e => by
    have hn := (List.getElem?_eq_some_iff.mp e).1
    rw [List.length_map, List.length_range] at hn
    rw [get n hn] at e
    rw [Zc.at_of (by omega)]
    split at e
    · rw [Option.some.inj e]
    · cases e
  refine ⟨(List.range hs.length).map fun n => if T' n = true then at_ dl (n : Int) else none, ⟨by rw [List.length_map, List.length_range], fun p q e => dk.held p q (some_of p q e), fun q => ?_⟩, fun n hn => ?_⟩
  · have : ((List.range hs.length).map fun n => if T' n = true then at_ dl (n : Int) else none).count (some q) ≤ dl.count (some q) := by
      rw [← idxOf_len (some q) _ 0, ← idxOf_len (some q) dl 0]
      refine nodup_sub (idxOf_nodup _ _ 0) fun x hx => ?_
      obtain ⟨p, rfl, h2⟩ := idx0.mp hx
      exact idx0.mpr ⟨p, rfl, some_of p q h2⟩
    rcases dk.room q with z | z
    · exact .inl (by omega)
    · exact .inr (by omega)
  · rw [at_eq (m := n) rfl (get n hn)]
    constructor
    · intro h; rw [if_pos h]; exact (on n hn).mp (s n hn h)
    · intro h
      by_cases z : T' n = true
      · exact z
      · rw [if_neg z] at h; exact absurd rfl h
/-- what a walk from one of S leaves -/
theorem walk_deals {T : Nat → Bool} {dl : List (Option Pr)} (d : DealsT caps hs T dl) {sts : Steps} (hd : dueB caps hs dl sts = true) {p : Nat} (hh : ∃ s, sts.head? = some s ∧ s.1 = (p : Int)) : DealsT caps hs (ins T p) (putAll dl sts) where
  dk := taken_ok d.dk hd
  on := fun n hn => by
    have hl := d.dk.len
    rw [ins_iff, d.on n hn]
    constructor
    · rintro (h | rfl)
      · exact taken_still hl hd hn (.inl h)
      · exact taken_still hl hd hn (.inr hh)
    · intro h
      by_cases z : at_ dl (n : Int) = none
      · right
        have g := putAll_get sts dl n fun s h => by rw [hl]; exact walk_rng hd s h
        by_cases y : (n : Int) ∈ sts.map (·.1)
        · obtain ⟨s, h1, h2⟩ := List.mem_map.mp y
          unfold dueB at hd
          split at hd
          · rename_i q hw
            rcases walk_stood hw s h1 with x | ⟨_, x⟩
            · exfalso
              apply x
              rw [show s.1.toNat = n by omega, Zc.at_of (by omega), z]
            · obtain ⟨s', h3, h4⟩ := hh
              rw [h3] at x
              cases x
              omega
          · cases hd
        · exfalso
          apply h
          have e := g.2 y
          rw [Zc.at_of (dl := dl) (by omega), z] at e
          exact at_eq rfl e
      · exact .inl z
theorem find_some (c : Cs) (ok : PoolOk caps hs m) (hm : m ≤ 60) {T : Nat → Bool} {dl : List (Option Pr)} (d : DealsT caps hs T dl) {S : List Int} (hS : Hold hs.length S) :
    ∃ w, g_find_walk c [poolD c caps hs, .lst (dl.map opD), .lst (iL S)] = some w ∧ ((w = .v .non ∧ ∃ K, Stuck caps hs dl S K) ∨ ∃ (sts : Steps) (p : Nat), w = .o (.lst (sts.map stD)) ∧ (p : Int) ∈ S ∧ dueB caps hs dl sts = true ∧ DealsT caps hs (ins T p) (putAll dl sts)) := by
  obtain ⟨w, e, hw⟩ := find_walk_spec c ok hm d.dk.len hS (.lst (iL S)) (.inr rfl)
  refine ⟨w, e, ?_⟩
  rcases hw with h | ⟨sts, rfl, hd, ⟨s, h1, h2⟩, _⟩
  · exact .inl h
  · have := hS.2 _ h2
    exact .inr ⟨sts, s.1.toNat, rfl, by rw [show ((s.1.toNat : Nat) : Int) = s.1 by omega]; exact h2, hd, walk_deals d hd ⟨s, h1, by omega⟩⟩
theorem ind_hall (ok : PoolOk caps hs m) {T L : Nat → Bool} (h : IndP caps hs T) (s : ∀ n, n < hs.length → L n = true → T n = true) : ((pickI hs.length L).length : Int) ≤ placesP caps hs (pickI hs.length L) := by
  obtain ⟨dl, dk, on⟩ := h
  have r := reach ok dk (Asc.hold (pickI_asc hs.length L))
  have e : (pickI hs.length L).filter (fun p => !decide (at_ dl p = none)) = pickI hs.length L := List.filter_eq_self.mpr fun x hx => by
    obtain ⟨n, rfl, hn, hL⟩ := pickI_mem.mp hx
    have := (on n hn).mp (s n hn hL)
    simp [this]
  rw [e] at r
  exact r
theorem stuck_no (ok : PoolOk caps hs m) {T : Nat → Bool} {dl : List (Option Pr)} (d : DealsT caps hs T dl) {p : Nat} (hp : p < hs.length) (hT : T p = false) {K : List Pr} (st : Stuck caps hs dl [(p : Int)] K) :
    ∃ L : Nat → Bool, (∀ n, n < hs.length → L n = true → ins T p n = true) ∧ placesP caps hs (pickI hs.length L) < ((pickI hs.length L).length : Int) := by
  have hl := d.dk.len
  have h := stuck_lot ok hl st
  have hn : at_ dl (p : Int) = none := by
    by_cases z : at_ dl (p : Int) = none
    · exact z
    · have := (d.on p hp).mpr z; rw [hT] at this; cases this
  have one : 1 ≤ (pickI hs.length (fun n => decide (at_ dl (n : Int) = none) && [(p : Int)].contains (n : Int))).length := by
    refine List.length_pos_of_mem (a := (p : Int)) (pickI_mem.mpr ⟨p, rfl, hp, ?_⟩)
    rw [decide_eq_true hn, Bool.true_and]; simp
  refine ⟨lotT dl [(p : Int)] K, fun n hn' hL => ins_iff.mpr ?_, by omega⟩
  unfold lotT at hL
  split at hL
  · right; simp at hL; omega
  · rename_i q e
    left
    exact (d.on n hn').mpr (by rw [e]; simp)
/-- one more: or a lot has more pieces than places -/
theorem aug (c : Cs) (ok : PoolOk caps hs m) (hm : m ≤ 60) {T : Nat → Bool} (h : IndP caps hs T) {p : Nat} (hp : p < hs.length) (hT : T p = false) :
    IndP caps hs (ins T p) ∨ ∃ L : Nat → Bool, (∀ n, n < hs.length → L n = true → ins T p n = true) ∧ placesP caps hs (pickI hs.length L) < ((pickI hs.length L).length : Int) := by
  obtain ⟨dl, d⟩ := h
  obtain ⟨w, _, h | ⟨sts, p', _, h2, _, d'⟩⟩ := find_some c ok hm d (S := [(p : Int)]) ⟨List.pairwise_singleton _ _, fun k hk => by rw [List.mem_singleton.mp hk]; omega⟩
  · obtain ⟨_, K, st⟩ := h
    exact .inr (stuck_no ok d hp hT st)
  · have : p' = p := by have := List.mem_singleton.mp h2; omega
    subst this
    exact .inl ⟨_, d'⟩
theorem exch (c : Cs) (ok : PoolOk caps hs m) (hm : m ≤ 60) {A B : Nat → Bool} (hA : IndP caps hs A) (hB : IndP caps hs B) (lt : cnt hs.length A < cnt hs.length B) : ∃ p, p < hs.length ∧ B p = true ∧ A p = false ∧ IndP caps hs (ins A p) := by
  obtain ⟨dl, d⟩ := hA
  obtain ⟨w, _, ⟨_, K, st⟩ | ⟨sts, p, _, h2, _, d'⟩⟩ := find_some c ok hm d (S := pickI hs.length fun n => B n && !A n) (Asc.hold (pickI_asc _ _))
  · exfalso
    have hl := d.dk.len
    have h := stuck_lot ok hl st
    obtain ⟨db, dkb, onb⟩ := hB
    have r := reach ok dkb (Asc.hold (pickI_asc hs.length (lotT dl (pickI hs.length fun n => B n && !A n) K)))
    have hc : ∀ n, n < hs.length → ((pickI hs.length fun n => B n && !A n).contains (n : Int)) = (B n && !A n) := fun n hn => by
      rw [Bool.eq_iff_iff, List.contains_iff_mem, pickI_mem]
      constructor
      · rintro ⟨i, e, _, h⟩; rw [show n = i by omega]; exact h
      · exact fun h => ⟨n, rfl, hn, h⟩
    have hA' : ∀ n, n < hs.length → (at_ dl (n : Int) = none ↔ A n = false) := fun n hn => by
      have := d.on n hn
      cases e : A n with
      | true => rw [e] at this; simp at this; simp [this]
      | false =>
        rw [e] at this
        simp at this
        simp [this]
    have e1 : (pickI hs.length (fun n => decide (at_ dl (n : Int) = none) && (pickI hs.length fun n => B n && !A n).contains (n : Int))).length = cnt hs.length fun n => B n && !A n := by
      refine cnt_congr fun n hn => ?_
      rw [hc n hn]
      cases e : A n with
      | true => simp
      | false => rw [decide_eq_true ((hA' n hn).mpr e)]; simp
    have e2 : ((pickI hs.length (lotT dl (pickI hs.length fun n => B n && !A n) K)).filter fun p => !decide (at_ db p = none)).length = cnt hs.length fun n => lotT dl (pickI hs.length fun n => B n && !A n) K n && B n := by
      unfold cnt pickI
      rw [List.filter_map, List.length_map, List.length_map, List.filter_filter]
      congr 1
      refine List.filter_congr fun n hn => ?_
      have hn := List.mem_range.mp hn
      have := onb n hn
      show (!decide (at_ db (n : Int) = none) && _) = _
      rw [Bool.and_comm]
      congr 1
      rw [Bool.eq_iff_iff, this]
      simp
    have q := cnt_le (n := hs.length) (f := lotT dl (pickI hs.length fun n => B n && !A n) K) (g := fun n => lotT dl (pickI hs.length fun n => B n && !A n) K n && B n) (h := fun n => A n && !B n) fun n hn hf => by
      have z := hA' n hn
      cases eB : B n with
      | true => left; rw [hf]; rfl
      | false =>
        cases eA : A n with
        | true => right; rfl
        | false =>
          exfalso
          unfold lotT at hf
          rw [z.mpr eA] at hf
          dsimp only at hf
          rw [hc n hn, eB] at hf
          cases hf
    have u := cnt_two (n := hs.length) (f := A) (g := fun n => A n && !B n) (h := fun n => A n && B n) (fun i _ h => by simp at h; exact h.1) (fun i _ h => by simp at h; exact h.1) (fun i _ h h' => by simp at h h'; rw [h.2] at h'; simp at h')
    have v := cnt_le (n := hs.length) (f := B) (g := fun n => B n && !A n) (h := fun n => A n && B n) fun i _ h => by
      cases e : A i with
      | true => right; simp [h]
      | false => left; simp [h]
    unfold cnt at *
    omega
  · obtain ⟨n, e, hn, h⟩ := pickI_mem.mp h2
    have : p = n := by omega
    subst this
    simp at h
    exact ⟨p, hn, h.1, h.2, _, d'⟩
/-! ### greedily -/
open Classical in
noncomputable def gstep (I : (Nat → Bool) → Prop) (T : Nat → Bool) (x : Int) : Nat → Bool := if I (ins T x.toNat) then ins T x.toNat else T
noncomputable def greedy (I : (Nat → Bool) → Prop) (ord : List Int) : Nat → Bool := ord.foldl (gstep I) fun _ => false
theorem gstep_yes {I : (Nat → Bool) → Prop} {T : Nat → Bool} {x : Int} (h : I (ins T x.toNat)) : gstep I T x = ins T x.toNat := if_pos h
theorem gstep_no {I : (Nat → Bool) → Prop} {T : Nat → Bool} {x : Int} (h : ¬ I (ins T x.toNat)) : gstep I T x = T := if_neg h
theorem gstep_mono {I : (Nat → Bool) → Prop} {T : Nat → Bool} {x : Int} {n : Nat} (h : T n = true) : gstep I T x n = true := by
  unfold gstep
  split
  · exact ins_iff.mpr (.inl h)
  · exact h
theorem gfold_mono {I : (Nat → Bool) → Prop} {n : Nat} : ∀ (ord : List Int) (T : Nat → Bool), T n = true → (ord.foldl (gstep I) T) n = true
  | [], _, h => h
  | x :: r, T, h => gfold_mono r _ (gstep_mono h)
theorem gfold_mem {I : (Nat → Bool) → Prop} {n : Nat} : ∀ (ord : List Int) (T : Nat → Bool), (ord.foldl (gstep I) T) n = true → T n = true ∨ ∃ x ∈ ord, x.toNat = n
  | [], _, h => .inl h
  | x :: r, T, h => by
    rcases gfold_mem r _ h with z | ⟨y, h1, h2⟩
    · unfold gstep at z
      split at z
      · rcases ins_iff.mp z with y | y
        · exact .inl y
        · exact .inr ⟨x, List.mem_cons_self, y.symm⟩
      · exact .inl z
    · exact .inr ⟨y, List.mem_cons_of_mem _ h1, h2⟩
theorem gfold_ind {I : (Nat → Bool) → Prop} : ∀ (ord : List Int) (T : Nat → Bool), I T → I (ord.foldl (gstep I) T)
  | [], _, h => h
  | x :: r, T, h => gfold_ind r _ (by
    unfold gstep
    split
    · rename_i z; exact z
    · exact h)
theorem greedy_ind (ord : List Int) : IndP caps hs (greedy (IndP caps hs) ord) := gfold_ind ord _ ⟨_, deals_nil⟩
/-- the order in which they are taken: falling worths, equal worths from the lowest piece on -/
def lt (ws : List Int) (a b : Int) : Prop := at_ ws b < at_ ws a ∨ (at_ ws a = at_ ws b ∧ a < b)
theorem greedy_best (c : Cs) (ok : PoolOk caps hs m) (hm : m ≤ 60) {ws ord : List Int} (hp : ord.Pairwise (lt ws)) (ha : ∀ n, n < hs.length → (n : Int) ∈ ord) (h0 : ∀ x ∈ ord, 0 ≤ x) {L : Nat → Bool} (hL : IndP caps hs L) (w : Int) :
    cnt hs.length (fun n => L n && decide (w ≤ at_ ws (n : Int))) ≤ cnt hs.length (fun n => greedy (IndP caps hs) ord n && decide (w ≤ at_ ws (n : Int))) := by
  by_cases z : cnt hs.length (fun n => greedy (IndP caps hs) ord n && decide (w ≤ at_ ws (n : Int))) < cnt hs.length (fun n => L n && decide (w ≤ at_ ws (n : Int)))
  · exfalso
    obtain ⟨p, hp1, hB, hA, hI⟩ := exch c ok hm (ind_sub (greedy_ind ord) (T' := fun n => greedy (IndP caps hs) ord n && decide (w ≤ at_ ws (n : Int))) fun n _ h => by simp at h; exact h.1) (ind_sub hL (T' := fun n => L n && decide (w ≤ at_ ws (n : Int))) fun n _ h => by simp at h; exact h.1) z
    have hw : w ≤ at_ ws (p : Int) := by simp at hB; exact hB.2
    have hG : greedy (IndP caps hs) ord p = false := by
      cases e : greedy (IndP caps hs) ord p with
      | false => rfl
      | true => rw [e, decide_eq_true hw] at hA; cases hA
    obtain ⟨pre, post, e⟩ := List.append_of_mem (ha p hp1)
    rw [e] at hp
    have hpre := (List.pairwise_append.mp hp).2.2
    have eG : greedy (IndP caps hs) ord = post.foldl (gstep (IndP caps hs)) (gstep (IndP caps hs) (pre.foldl (gstep (IndP caps hs)) fun _ => false) (p : Int)) := by
      unfold greedy
      rw [e, List.foldl_append, List.foldl_cons]
    by_cases y : IndP caps hs (ins (pre.foldl (gstep (IndP caps hs)) fun _ => false) ((p : Int)).toNat)
    · rw [eG, gfold_mono post _ (by rw [gstep_yes y]; exact ins_iff.mpr (.inr (by omega)))] at hG
      cases hG
    · apply y
      refine ind_sub hI fun n hn h => ?_
      rcases ins_iff.mp h with h | h
      · refine ins_iff.mpr (.inl ?_)
        rcases gfold_mem pre _ h with x | ⟨x, h1, h2⟩
        · cases x
        · have h3 := hpre x h1 (p : Int) List.mem_cons_self
          have h4 := h0 x (by rw [e]; exact List.mem_append_left _ h1)
          have : greedy (IndP caps hs) ord n = true := by rw [eG]; exact gfold_mono post _ (gstep_mono h)
          rw [this, Bool.true_and, decide_eq_true_eq, show (n : Int) = x by omega]
          unfold lt at h3
          omega
      · exact ins_iff.mpr (.inr (by omega))
  · omega
end
end Zu
end

section
set_option Elab.async false
set_option linter.all false
set_option maxRecDepth 100000
set_option maxHeartbeats 2000000
/-! Lots, places and the greatest number, as the laws write them. -/
namespace Zc
open PySem L2 Zk
def t_law_lots : SF :=
 (sSeq (sAsg (dN mkLst (aCons (dN mkLst aNil) aNil)) (dName 1))
 (sSeq (sFor (dRng1 (aCons (dVar 0) aNil)) (dName 2)
 (sAsg (d2 addD (dVar 1) (dLc (dItems (dVar 1)) (dName 3) dYes (d2 addD (dVar 3) (dN mkLst (aCons (dVar 2) aNil))) [3])) (dName 1)))
 (sRet (dVar 1))))
def g_law_lots : PF := runG 3 (t_law_lots)
def t_law_places : SF :=
 (sSeq (sAsg (dC (.int 0)) (dName 3))
 (sSeq (sFor (dItems (dCall 1 (g_law_pairs) (aCons (dN lenD (aCons (dVar 0) aNil)) aNil))) (dName 4)
 (sFor (dItems (dVar 2)) (dName 5)
 (sIf (dAndT (tDt blD (d2 inD (d2 ixD (dVar 4) (dC (.int 0))) (d2 ixD (dVar 1) (dVar 5)))) (tDt blD (d2 inD (d2 ixD (dVar 4) (dC (.int 1))) (d2 ixD (dVar 1) (dVar 5)))))
 (sSeq (sAsg (d2 addD (dVar 3) (dN minD (aCons (d2 ixD (dVar 0) (d2 ixD (dVar 4) (dC (.int 0)))) (aCons (d2 ixD (dVar 0) (d2 ixD (dVar 4) (dC (.int 1)))) aNil)))) (dName 3))
 sBreak)
 sNext)))
 (sRet (dVar 3))))
def g_law_places : PF := runG 3 (t_law_places)
theorem step_gen {α : Type} {f : DGF} {s : SF} {g : Gm} {J : Gm → Prop} (enc : α → D) (xs : List α) (B : Gm → Prop) (I : Nat → Gm → Prop) (h0 : I 0 g)
    (hs : ∀ (i : Nat) (a : α) (g : Gm), xs[i]? = some a → I i g → ∃ g1, f (enc a) g = some g1 ∧ Turn (s g1) (I (i + 1)) (fun _ => False) B)
    (k : ∀ g', I xs.length g' → J g') (kb : ∀ g', B g' → J g') : StepTo (loopD f s (xs.map enc) g) J := by
  rcases loop_gen (ds := xs.map enc) (f := f) (s := s) (R := fun _ => False) (B := B) I h0 (fun i d g hd hI => by
    rw [List.getElem?_map] at hd
    cases e : xs[i]? with
    | none => rw [e] at hd; cases hd
    | some a => rw [e] at hd; cases hd; exact hs i a g e hI) with ⟨g', e, h | h⟩ | ⟨w, e, h⟩
  · rw [e]; exact step_nx (k g' (by rw [List.length_map] at h; exact h))
  · rw [e]; exact step_nx (kb g' h)
  · exact h.elim
theorem rows_app {xs ys : List (List Int)} : rowsL xs ++ rowsL ys = rowsL (xs ++ ys) := by unfold rowsL; rw [List.map_append]
local macro_rules | `(tactic| walk_at "zs") => `(tactic| simp only [beq_self_eq_true, Bool.or_false, Bool.false_or, Bool.true_or, Bool.or_true, Bool.and_false, Bool.false_and, Bool.true_and, Bool.and_true, Zc.isi_ii, Zc.isi_ib, Zc.isi_tt, Zc.isi_ll, Zc.rowsT_len, Zc.rowsL_len, Zc.is_integer_call, Zc.ix_p0, Zc.ix_p1, dgTup2_a, dgTup3_a, Bool.not_true, Bool.not_false, mul_lz, List.flatten_cons, List.flatten_nil, Int.reduceToNat, add_ll, pow10_12, pow10_18, pow10_39, pow10_41, pow10_59, pow10_60, mkLst_some, mkTup_some, List.length_cons, List.length_nil, Nat.zero_le, Nat.reduceAdd, Nat.reduceLeDiff, call1, callO1, call2, callO2, call3, callO3, call4, callO4, call5, callO5, call6, callO6, ap1_some, ap2_some, apN_some, apC_some, d1_a, d2_a, dN_a, aNil_a, aCons_a, dC_a, dVar_z, dVar_s, tDt_a, apAnd_t, apAnd_f, apOr_t, apOr_f, dAndT_a, dOrT_a, apNot_some, dNotT_a, apAndV_t, apAndV_f, dAndV_a, apOrV_t, apOrV_f, dOrV_a, apIf_t, apIf_f, dIf_a, apCh_t, apCh_f, apChain_some, dChain_a, apSeq_nx, apSeq_rt, apSeq_ct, apSeq_bk, sSeq_a, apIfS_t, apIfS_f, sIf_a, sNext_a, sCont_a, sBreak_a, apRet_some, sRet_a, apRetO_some, sRetO_a, sRetN_a, getO_z, getO_s, apRetV_some, sRetV_a, ltB_z, ltB_s, okSlot_s, apAsg_some, sAsg_a, dName_ok, apG_some, dgCons_a, dgNil_a, apAsgO_some, sAsgO_a, sApp_a, sSetI_a, apFor_some, sFor_a, dItems_a, dRng1_a, dRng2_a, apEn_some, apEn_tup, dEnum_a, sFrz_a, frzs_nil, frzs_cons, frzI_o, frzI_v, frzI_n, frzI_s, frz1_s, frzAll_nil, frzAll_o, frzAll_v, frzAll_n, peekT_a, apPk_int, apPk_bl, apPk_str, apPk_non, peekF_a, dCall_a, toO_o, dCallO_a, dMake_a, Wd_v, Wd_o, dSl_a, apSl_some, oNone_a, oSome_a, apO_some, add_ii, sub_ii, lt_ii, le_ii, gt_ii, ge_ii, eq_ii, ne_ii, neg_i, not_b, bl_b, tru_b, tru_i, tru_l, tru_t, tru_n, len_l, len_t, len_scr, abs_i, int_i, list_l, list_t, tuple_l, tuple_t, min_ii, max_ii, rev_l, items_l, items_t, iL_len, run_a, outW_rt, outW_nx, List.map_cons, List.map_nil, List.replicate, List.append_nil, List.cons_append, List.nil_append, List.set_cons_zero, List.set_cons_succ, Option.map_some])
local macro_rules | `(tactic| walk_at "zd") => `(tactic| first | ((with_reducible show okSlot _ _ = true); simp only [okSlot_s, ltB_z, ltB_s]; done) | omega | assumption | decide | (simp only [List.length_map, List.length_append, List.length_cons, List.length_nil, List.length_range, List.length_set, List.length_reverse, iL_len, Zc.rowsT_len, Zc.rowsL_len] at *; omega))
local macro_rules | `(tactic| walk_at "zz") => `(tactic| simp (disch := walk_at "zd") only [dgTup2_a, dgTup3_a, Bool.not_true, Bool.not_false, mul_lz, List.flatten_cons, List.flatten_nil, Int.reduceToNat, add_ll, pow10_12, pow10_18, pow10_39, pow10_41, pow10_59, pow10_60, mkLst_some, mkTup_some, List.length_cons, List.length_nil, Nat.zero_le, Nat.reduceAdd, Nat.reduceLeDiff, call1, callO1, call2, callO2, call3, callO3, call4, callO4, call5, callO5, call6, callO6, ap1_some, ap2_some, apN_some, apC_some, d1_a, d2_a, dN_a, aNil_a, aCons_a, dC_a, dVar_z, dVar_s, tDt_a, apAnd_t, apAnd_f, apOr_t, apOr_f, dAndT_a, dOrT_a, apNot_some, dNotT_a, apAndV_t, apAndV_f, dAndV_a, apOrV_t, apOrV_f, dOrV_a, apIf_t, apIf_f, dIf_a, apCh_t, apCh_f, apChain_some, dChain_a, apSeq_nx, apSeq_rt, apSeq_ct, apSeq_bk, sSeq_a, apIfS_t, apIfS_f, sIf_a, sNext_a, sCont_a, sBreak_a, apRet_some, sRet_a, apRetO_some, sRetO_a, sRetN_a, getO_z, getO_s, apRetV_some, sRetV_a, ltB_z, ltB_s, okSlot_s, apAsg_some, sAsg_a, dName_ok, apG_some, dgCons_a, dgNil_a, apAsgO_some, sAsgO_a, sApp_a, sSetI_a, apFor_some, sFor_a, dItems_a, dRng1_a, dRng2_a, apEn_some, apEn_tup, dEnum_a, sFrz_a, frzs_nil, frzs_cons, frzI_o, frzI_v, frzI_n, frzI_s, frz1_s, frzAll_nil, frzAll_o, frzAll_v, frzAll_n, peekT_a, apPk_int, apPk_bl, apPk_str, apPk_non, peekF_a, dCall_a, toO_o, dCallO_a, dMake_a, Wd_v, Wd_o, dSl_a, apSl_some, oNone_a, oSome_a, apO_some, add_ii, sub_ii, lt_ii, le_ii, gt_ii, ge_ii, eq_ii, ne_ii, neg_i, not_b, bl_b, tru_b, tru_i, tru_l, tru_t, tru_n, len_l, len_t, len_scr, abs_i, int_i, list_l, list_t, tuple_l, tuple_t, min_ii, max_ii, rev_l, items_l, items_t, iL_len, run_a, outW_rt, outW_nx, List.map_cons, List.map_nil, List.replicate, List.append_nil, List.cons_append, List.nil_append, List.set_cons_zero, List.set_cons_succ, Option.map_some, Int.reduceAdd, Int.reduceMul, Int.reduceSub, Int.reduceNeg, beq_self_eq_true, Bool.or_false, Bool.false_or, Bool.true_or, Bool.or_true, Bool.and_false, Bool.false_and, Bool.true_and, Bool.and_true, Zc.isi_ii, Zc.isi_ib, Zc.isi_tt, Zc.isi_ll, Zc.rowsT_len, Zc.rowsL_len, Zc.is_integer_call, Zc.ix_p0, Zc.ix_p1, apR1_any, Int.toNat_natCast, apR2_some, mod_ii, fdiv_ii, mul_small, apApp_some, ix_at, ix_atT, ix_atI, ix_atIT, ix_atR, ix_atRT, List.length_map, List.length_append, List.length_range, List.length_set, Option.map_none, Option.map_map, decide_true, decide_false, peekO_a, apPkO_i, frz_wo, frz_wv, frz_kk, wipeG_nil, wipeG_cons, orB_s, orB_t, orB_f, andB_s, andB_t, andB_f, orV_s, orV_t, orV_f, andV_s, andV_t, andV_f, apOr_b, apAnd_b, apOrV_b, apAndV_b, apCh_b, Zc.cut_from, Zc.cut_to, in_l, in_t, in_pr, eq_op_op, eq_op_pr, eq_pr_op, eq_pr_pr, ne_op_op, ne_op_pr, ne_pr_op, ne_pr_pr, isnt_op, is_op, pr_0, pr_1, st_0, st_1, inP_pr, ninP_pr, nin_l, isi_prt, len_pr, op_some, prD_eq, ix_lit2, ix_lit3, ix_lit4, ix_lit5, ix_lit6, ix_lit7, ix_lit8, ix_lit9, ix_lit10, ix_lit11, ix_lit12, ix_lit13, ix_lit14, ix_lit15, setI_i, setI_p, setI_o, setI_n, snoc_i, snoc_r, snoc_p, snoc_n, snoc_o, snoc_pp, snoc_s, eq_ol, ne_ol, eq_pl, ne_pl, eq_sl, ne_sl, eq_il, ne_il, eq_rl, ne_rl, eq_il1, isi_bb, eq_bb, ne_bb, rows_app])
local macro_rules | `(tactic| walk_at "zf") => `(tactic| first | (walk_at "zz"; done) | (walk_at "zz"; rfl) | rfl)
local macro_rules | `(tactic| walk_at "lc") => `(tactic| ((case hf => rfl); (case hi => first | (walk_at "zz"; done) | (walk_at "zz"; rfl) | rfl); (case hl => walk_at "zd"); (case h => (intro a ha; refine ⟨_, dName_ok rfl, ?_, fun hT => ?_⟩ <;> walk_at "zz" <;> rfl))))
local macro_rules | `(tactic| walk_at "lm") => `(tactic| ((case hf => rfl); (case hi => first | (walk_at "zz"; done) | (walk_at "zz"; rfl) | rfl); (case hl => walk_at "zd"); (case h => (intro a ha; refine ⟨_, dName_ok rfl, ?_⟩; walk_at "zz"; rfl))))
theorem law_lots_any (N : Int) (hn : 0 ≤ N ∧ N ≤ 8) : g_law_lots [.int N] = some (.v (.lst (rowsL (lotsL N.toNat)))) := by
  unfold g_law_lots t_law_lots
  refine seq_then (C := fun o => outW o = _) (fun g => g = [some (.v (.int N)), some (.v (.lst (rowsL (lotsL 0)))), none, none]) ⟨_, rfl, rfl⟩ ?_
  rintro g rfl
  walk_at "zz"
  refine rng_then (C := fun o => outW o = _) (fun i g => ∃ p2 : Option Wd, g = [some (.v (.int N)), some (.v (.lst (rowsL (lotsL i)))), p2, none]) ⟨_, rfl⟩ ?_ ?_ ?_
  · rintro i g ⟨_, rfl⟩; rfl
  · rintro i g hi ⟨p2, rfl⟩
    have hl := lotsL_len i
    have h2 : 2 ^ i ≤ 2 ^ 8 := Nat.pow_le_pow_right (by decide) (by omega)
    have h3 : (lotsL i).length ≤ 256 := by omega
    walk_at "zz"
    rewrite [dLc_map (fun l : List Int => D.lst (iL l)) (xs := lotsL i) (F := fun l => D.lst (iL (l ++ [(i : Int)])))]
    case hf => rfl
    case hi => walk_at "zz"; rfl
    case hl => omega
    case h =>
      intro l hl
      have := (lotsL_hold hl).len
      refine ⟨_, dName_ok rfl, ?_⟩
      have hll : (iL l).length ≤ 100 := by rw [iL_len]; omega
      walk_at "zz"
    rw [show ((lotsL i).map fun l => D.lst (iL (l ++ [(i : Int)]))) = rowsL ((lotsL i).map fun l => l ++ [(i : Int)]) from by unfold rowsL; rw [List.map_map]; rfl]
    walk_at "zz"
    exact step_nx ⟨_, rfl⟩
  · rintro g ⟨p2, rfl⟩
    walk_at "zz"
theorem law_lots_spec (n : Nat) (hn : n ≤ 8) : g_law_lots [.int (n : Int)] = some (.v (.lst (rowsL (lotsL n)))) := law_lots_any (n : Int) (by omega)
section
variable {caps : List Int} {hs : List (List Int)} {m : Nat}
theorem law_places_spec (ok : PoolOk caps hs m) {L : List Int} (hL : Hold hs.length L) (hm : m ≤ 100) : g_law_places [.lst (iL caps), .lst (rowsL hs), .lst (iL L)] = some (.v (.int (placesP caps hs L))) := by
  unfold g_law_places t_law_places
  walk_at "zz"
  rw [pairs_spec _ (by have := ok.s12; omega), pairsP_prD]
  walk_at "zz"
  refine loop_each (C := fun o => outW o = _) prD (pairsP caps.length) (fun i g => ∃ (t : Int) (p4 p5 : Option Wd), g = [some (.v (.lst (iL caps))), some (.v (.lst (rowsL hs))), some (.v (.lst (iL L))), some (.v (.int t)), p4, p5] ∧ t + sumP (gP caps hs L) ((pairsP caps.length).drop i) = placesP caps hs L) ⟨0, _, _, rfl, by rw [List.drop_zero, Int.zero_add]; rfl⟩ ?_ ?_
  · rintro i q g hq ⟨t, p4, p5, rfl, ht⟩
    have hq2 := pairsP_mem.mp (List.mem_of_getElem? hq)
    have hil := (List.getElem?_eq_some_iff.mp hq).1
    have hd : (pairsP caps.length).drop i = q :: (pairsP caps.length).drop (i + 1) := by
      rw [List.drop_eq_getElem_cons hil, (List.getElem?_eq_some_iff.mp hq).2]
    rw [hd] at ht
    unfold sumP at ht
    refine ⟨_, dName_ok rfl, ?_⟩
    walk_at "zz"
    refine step_gen D.int L (fun g => ∃ p5 : Option Wd, g = [some (.v (.lst (iL caps))), some (.v (.lst (rowsL hs))), some (.v (.lst (iL L))), some (.v (.int (t + roomOf caps q))), some (.v (prD q)), p5] ∧ touch hs L q = true)
      (fun j g => ∃ p5 : Option Wd, g = [some (.v (.lst (iL caps))), some (.v (.lst (rowsL hs))), some (.v (.lst (iL L))), some (.v (.int t)), some (.v (prD q)), p5] ∧ ∀ l, l < j → ∀ p, L[l]? = some p → ((at_ hs p).contains q.1 && (at_ hs p).contains q.2) = false) ⟨_, rfl, fun l h => by omega⟩ ?_ ?_ ?_
    · rintro j p g hp ⟨p5, rfl, hno⟩
      have hpl := hL.2 p (List.mem_of_getElem? hp)
      refine ⟨_, dName_ok rfl, ?_⟩
      walk_at "zz"
      refine if_end (C := fun o => Turn o _ _ _) (fun hb => ?_) fun hb => ?_
      · walk_at "zz"
        refine turn_bk ⟨some (.v (.int p)), rfl, touch_iff.mpr ⟨p, List.mem_of_getElem? hp, ?_⟩⟩
        · rw [Bool.and_eq_true] at hb; simpa using hb
      · walk_at "zz"
        refine turn_nx ⟨_, rfl, fun l hl p' hp' => ?_⟩
        by_cases hx : l < j
        · exact hno l hx p' hp'
        · have : l = j := by omega
          subst this
          rw [hp] at hp'
          cases hp'
          exact hb
    · rintro g ⟨p5, rfl, hno⟩
      have : touch hs L q = false := by
        cases h : touch hs L q with
        | false => rfl
        | true =>
          obtain ⟨p, hp, h1, h2⟩ := touch_iff.mp h
          obtain ⟨l, hl⟩ := List.mem_iff_getElem?.mp hp
          have := hno l (List.getElem?_eq_some_iff.mp hl).1 p hl
          rw [Bool.and_eq_false_iff] at this
          rcases this with z | z
          · have : (at_ hs p).contains q.1 = true := by simpa using h1
            rw [this] at z; cases z
          · have : (at_ hs p).contains q.2 = true := by simpa using h2
            rw [this] at z; cases z
      refine ⟨t, _, _, rfl, ?_⟩
      unfold gP at ht
      rw [this, if_neg (by simp)] at ht
      unfold gP
      omega
    · rintro g ⟨p5, rfl, ht2⟩
      refine ⟨_, _, _, rfl, ?_⟩
      unfold gP at ht
      rw [ht2, if_pos rfl] at ht
      unfold gP
      omega
  · rintro g ⟨t, p4, p5, rfl, ht⟩
    walk_at "zz"
    rw [List.drop_length] at ht
    unfold sumP at ht
    rw [show t = placesP caps hs L by omega]
end
end Zc
end

section
set_option Elab.async false
set_option linter.all false
set_option maxRecDepth 100000
set_option maxHeartbeats 2000000
/-! Sums by worth; the order by falling worths. -/
namespace Zu
open PySem L2 Zk Zc Zsl
/-! ### sums -/
def sm (n : Nat) (T : Nat → Bool) (f : Nat → Nat) : Nat := ((List.range n).map fun i => if T i = true then f i else 0).sum
theorem sm_succ (n : Nat) (T : Nat → Bool) (f : Nat → Nat) : sm (n + 1) T f = sm n T f + if T n = true then f n else 0 := by
  unfold sm
  rw [List.range_succ, List.map_append, List.sum_append]
  simp
theorem sm_min (T : Nat → Bool) (f : Nat → Nat) (k : Nat) : ∀ n, sm n T (fun i => min (f i) (k + 1)) = sm n T (fun i => min (f i) k) + cnt n fun i => T i && decide (k + 1 ≤ f i)
  | 0 => rfl
  | n + 1 => by
    have ih := sm_min T f k n
    rw [sm_succ, sm_succ, cnt_succ, ih]
    cases h : T n with
    | false => simp
    | true =>
      by_cases z : k + 1 ≤ f n
      · simp [z]; omega
      · simp [z]; omega
theorem sm_congr {n : Nat} {T : Nat → Bool} {f g : Nat → Nat} (h : ∀ i, i < n → f i = g i) : sm n T f = sm n T g := by
  unfold sm
  congr 1
  exact List.map_congr_left fun i hi => by rw [h i (List.mem_range.mp hi)]
theorem sm_le {n : Nat} {A B : Nat → Bool} {f : Nat → Nat} (h : ∀ k, cnt n (fun i => A i && decide (k ≤ f i)) ≤ cnt n (fun i => B i && decide (k ≤ f i))) : sm n A f ≤ sm n B f := by
  have key : ∀ k, sm n A (fun i => min (f i) k) ≤ sm n B (fun i => min (f i) k) := fun k => by
    induction k with
    | zero =>
      have z : ∀ (T : Nat → Bool) (n : Nat), sm n T (fun i => min (f i) 0) = 0 := fun T n => by
        induction n with
        | zero => rfl
        | succ n ih => rw [sm_succ, ih]; split <;> simp
      rw [z, z]
      exact Nat.le_refl _
    | succ k ih =>
      rw [sm_min, sm_min]
      have := h (k + 1)
      omega
  have hb : ∃ M, ∀ i, i < n → f i ≤ M := by
    clear key h
    induction n with
    | zero => exact ⟨0, fun i h => by omega⟩
    | succ n ih =>
      obtain ⟨M, hM⟩ := ih
      exact ⟨M + f n, fun i hi => by
        rcases Nat.lt_or_ge i n with z | z
        · have := hM i z; omega
        · rw [show i = n by omega]; omega⟩
  obtain ⟨M, hM⟩ := hb
  have e : ∀ T : Nat → Bool, sm n T (fun i => min (f i) M) = sm n T f := fun T => sm_congr fun i hi => by have := hM i hi; omega
  have := key M
  rw [e, e] at this
  exact this
theorem sum_pick {ws : List Int} (h0 : ∀ i : Nat, 0 ≤ at_ ws (i : Int)) (T : Nat → Bool) : ∀ n : Nat, ((pickI n T).map (at_ ws)).sum = ((sm n T fun i => (at_ ws (i : Int)).toNat : Nat) : Int)
  | 0 => rfl
  | n + 1 => by
    rw [pickI_succ, List.map_append, List.sum_append, sum_pick h0 T n, sm_succ]
    have := h0 n
    cases h : T n with
    | false => simp
    | true => simp; omega
/-! ### the order -/
structure Row (ws : List Int) (R : List Int) (t : Nat) : Prop where
  len : R.length = t
  nd : R.Nodup
  mem : ∀ x ∈ R, 0 ≤ x ∧ x < (ws.length : Int)
  pw : R.Pairwise (lt ws)
  out : ∀ x ∈ R, ∀ y : Int, 0 ≤ y → y < (ws.length : Int) → y ∉ R → lt ws x y
theorem ints_mem {n : Nat} {x : Int} : x ∈ intsTo (n : Int) ↔ 0 ≤ x ∧ x < (n : Int) := by
  unfold intsTo
  rw [List.mem_map]
  constructor
  · rintro ⟨i, hi, rfl⟩
    have := List.mem_range.mp hi
    omega
  · rintro ⟨h0, h1⟩
    exact ⟨x.toNat, List.mem_range.mpr (by omega), by omega⟩
theorem ints_nodup (n : Int) : (intsTo n).Nodup := by
  unfold intsTo
  exact List.pairwise_map.mpr (List.nodup_range.imp fun h z => h (by omega))
theorem Row.add {ws R : List Int} {t : Nat} {b : Int} (r : Row ws R t) (h0 : 0 ≤ b) (h1 : b < (ws.length : Int)) (hb : b ∉ R) (hl : ∀ y : Int, 0 ≤ y → y < (ws.length : Int) → y ∉ R → y ≠ b → lt ws b y) : Row ws (R ++ [b]) (t + 1) where
  len := by rw [List.length_append, r.len]; rfl
  nd := List.nodup_append.mpr ⟨r.nd, List.pairwise_singleton _ _, fun x hx y hy => by rw [List.mem_singleton.mp hy]; rintro rfl; exact hb hx⟩
  mem := fun x hx => by
    rcases List.mem_append.mp hx with z | z
    · exact r.mem x z
    · rw [List.mem_singleton.mp z]; exact ⟨h0, h1⟩
  pw := List.pairwise_append.mpr ⟨r.pw, List.pairwise_singleton _ _, fun x hx y hy => by rw [List.mem_singleton.mp hy]; exact r.out x hx b h0 h1 hb⟩
  out := fun x hx y y0 y1 hy => by
    have n1 : y ∉ R := fun z => hy (List.mem_append_left _ z)
    have n2 : y ≠ b := fun z => hy (List.mem_append_right _ (List.mem_singleton.mpr z))
    rcases List.mem_append.mp hx with z | z
    · exact r.out x z y y0 y1 n1
    · rw [List.mem_singleton.mp z]; exact hl y y0 y1 n1 n2
theorem Row.all {ws R : List Int} (r : Row ws R ws.length) (x : Int) : x ∈ R ↔ 0 ≤ x ∧ x < (ws.length : Int) := by
  constructor
  · exact r.mem x
  · intro h
    by_cases q : x ∈ R
    · exact q
    · exfalso
      have nd : (R ++ [x]).Nodup := List.nodup_append.mpr ⟨r.nd, List.pairwise_singleton _ _, fun a ha b hb => by rw [List.mem_singleton.mp hb]; rintro rfl; exact q ha⟩
      have := nd.length_le_of_subset (l₂ := intsTo (ws.length : Int)) fun a ha => by
        rcases List.mem_append.mp ha with z | z
        · exact ints_mem.mpr (r.mem a z)
        · rw [List.mem_singleton.mp z]; exact ints_mem.mpr h
      rw [List.length_append, r.len, intsTo_len] at this
      simp at this
      omega
theorem row_sort {ws : List Int} {f : Int → Int × Int} (hf : ∀ i ∈ intsTo (ws.length : Int), f i = (-(at_ ws i), i)) {R : List Int} (hR : Row ws R ws.length) : (intsTo (ws.length : Int)).mergeSort (Zst2.leP f) = R := by
  have hm : ∀ x, x ∈ R ↔ x ∈ intsTo (ws.length : Int) := fun x => by rw [hR.all x, ints_mem]
  have hp : R.Perm (intsTo (ws.length : Int)) := (List.perm_ext_iff_of_nodup hR.nd (ints_nodup _)).mpr hm
  refine List.Perm.eq_of_pairwise (le := fun a b => Zst2.leP f a b = true) (fun a b ha hb h1 h2 => ?_) (List.pairwise_mergeSort (fun a b c h1 h2 => ?_) (fun a b => ?_) _) ?_ ((List.mergeSort_perm _ _).trans hp.symm)
  · have ha := (List.mergeSort_perm _ _).mem_iff.mp ha
    have hb := (hm b).mp hb
    unfold Zst2.leP at h1 h2
    rw [decide_eq_true_eq, hf a ha, hf b hb] at h1 h2
    dsimp only at h1 h2
    omega
  · unfold Zst2.leP at *
    rw [decide_eq_true_eq] at *
    omega
  · unfold Zst2.leP
    rw [Bool.or_eq_true, decide_eq_true_eq, decide_eq_true_eq]
    omega
  · refine List.Pairwise.imp_of_mem (fun {a b} ha hb h => ?_) hR.pw
    unfold Zst2.leP
    rw [decide_eq_true_eq, hf a ((hm a).mp ha), hf b ((hm b).mp hb)]
    unfold lt at h
    dsimp only
    omega
theorem row_one {ws R R' : List Int} (h : Row ws R ws.length) (h' : Row ws R' ws.length) : R = R' := by
  rw [← row_sort (f := fun i => (-(at_ ws i), i)) (fun _ _ => rfl) h, row_sort (f := fun i => (-(at_ ws i), i)) (fun _ _ => rfl) h']
/-! ### masks -/
theorem lot_bit : ∀ n : Nat, n ≤ 6 → ∀ k : Nat, k < 2 ^ n → (lotsL n)[k]? = some (pickI n fun i => k.testBit i) := by
  have h : ∀ n : Fin 7, ∀ k : Fin 64, k.val < 2 ^ n.val → (lotsL n.val)[k.val]? = some (pickI n.val fun i => k.val.testBit i) := by decide +kernel
  intro n hn k hk
  have : 2 ^ n ≤ 2 ^ 6 := Nat.pow_le_pow_right (by omega) hn
  exact h ⟨n, by omega⟩ ⟨k, by omega⟩ hk
def pw2 (p : Nat) : Int := ((2 ^ p : Nat) : Int)
theorem bit_sum : ∀ n : Nat, n ≤ 6 → ∀ k : Nat, k < 2 ^ n → ((pickI n fun i => k.testBit i).map fun p => pw2 p.toNat).sum = (k : Int) := by
  have h : ∀ n : Fin 7, ∀ k : Fin 64, k.val < 2 ^ n.val → ((pickI n.val fun i => k.val.testBit i).map fun p => pw2 p.toNat).sum = (k.val : Int) := by decide +kernel
  intro n hn k hk
  have : 2 ^ n ≤ 2 ^ 6 := Nat.pow_le_pow_right (by omega) hn
  exact h ⟨n, by omega⟩ ⟨k, by omega⟩ hk
/-- the mask without p -/
theorem bit_sub : ∀ n : Nat, n ≤ 6 → ∀ k : Nat, k < 2 ^ n → ∀ p : Nat, p < n → k.testBit p = true → 2 ^ p ≤ k ∧ ∀ q : Nat, q < n → (k - 2 ^ p).testBit q = (k.testBit q && !decide (q = p)) := by
  have h : ∀ n : Fin 7, ∀ k : Fin 64, k.val < 2 ^ n.val → ∀ p : Fin 6, p.val < n.val → k.val.testBit p.val = true → 2 ^ p.val ≤ k.val ∧ ∀ q : Fin 6, q.val < n.val → (k.val - 2 ^ p.val).testBit q.val = (k.val.testBit q.val && !decide (q.val = p.val)) := by decide +kernel
  intro n hn k hk p hp hb
  have : 2 ^ n ≤ 2 ^ 6 := Nat.pow_le_pow_right (by omega) hn
  have := h ⟨n, by omega⟩ ⟨k, by omega⟩ hk ⟨p, by omega⟩ hp hb
  exact ⟨this.1, fun q hq => this.2 ⟨q, by omega⟩ hq⟩
theorem bit_add : ∀ n : Nat, n ≤ 6 → ∀ k : Nat, k < 2 ^ n → ∀ p : Nat, p < n → k.testBit p = false → k + 2 ^ p < 2 ^ n ∧ ∀ q : Nat, q < n → (k + 2 ^ p).testBit q = (k.testBit q || decide (q = p)) := by
  have h : ∀ n : Fin 7, ∀ k : Fin 64, k.val < 2 ^ n.val → ∀ p : Fin 6, p.val < n.val → k.val.testBit p.val = false → k.val + 2 ^ p.val < 2 ^ n.val ∧ ∀ q : Fin 6, q.val < n.val → (k.val + 2 ^ p.val).testBit q.val = (k.val.testBit q.val || decide (q.val = p.val)) := by decide +kernel
  intro n hn k hk p hp hb
  have : 2 ^ n ≤ 2 ^ 6 := Nat.pow_le_pow_right (by omega) hn
  have := h ⟨n, by omega⟩ ⟨k, by omega⟩ hk ⟨p, by omega⟩ hp hb
  exact ⟨this.1, fun q hq => this.2 ⟨q, by omega⟩ hq⟩
theorem pick_congr {n : Nat} {S T : Nat → Bool} (h : ∀ i, i < n → S i = T i) : pickI n S = pickI n T := by
  unfold pickI
  congr 1
  exact List.filter_congr fun i hi => h i (List.mem_range.mp hi)
end Zu
end

section
set_option Elab.async false
set_option linter.all false
set_option maxRecDepth 100000
set_option maxHeartbeats 2000000
/-! Dealings and lots judged, whatever the list. -/
namespace Zc
open PySem L2 Zk
/-! ### is_dealing -/
section
end
/-! ### are_ascending -/
instance {n : Nat} {h : List Int} : Decidable (Asc n h) := by unfold Asc; exact inferInstance
/-! ### repr of a list of alike data -/
end Zc
end

section
set_option Elab.async false
set_option linter.all false
set_option maxRecDepth 100000
set_option autoImplicit false
set_option maxHeartbeats 2000000
/-! Lots of greatest lack against a greatest dealing: the open pairs. -/
namespace Zc
open PySem L2 Zk
section
variable {caps : List Int} {hs : List (List Int)} {m : Nat} {dl : List (Option Pr)}
/-- of greatest lack, where dl is a greatest dealing -/
structure Tight (caps : List Int) (hs : List (List Int)) (dl : List (Option Pr)) (L : List Int) : Prop where
  hold : Hold hs.length L
  eq : (L.length : Int) = placesP caps hs L + (dl.count none : Nat)
/-- what a dealt piece holds -/
theorem dealt_in (ok : PoolOk caps hs m) (dk : DealOk caps hs dl) {n : Nat} {q : Pr} (h : dl[n]? = some (some q)) : n < hs.length ∧ q ∈ pairsP caps.length ∧ q.1 ∈ at_ hs (n : Int) ∧ q.2 ∈ at_ hs (n : Int) ∧ 0 < roomOf caps q := by
  obtain ⟨r, h1, h2⟩ := dk.held n q h
  have hn := (List.getElem?_eq_some_iff.mp h1).1
  have ha := ok.asc r (List.mem_of_getElem? h1)
  have z := (heldP_mem ha q).mp h2
  have w := held_in ha h2
  have e : at_ hs (n : Int) = r := at_eq (m := n) rfl h1
  refine ⟨hn, pairsP_mem.mpr ⟨w.1.1, z.2.2.1, w.2.2⟩, by rw [e]; exact z.1, by rw [e]; exact z.2.1, ?_⟩
  have hc : 0 < dl.count (some q) := List.count_pos_iff.mpr (List.mem_of_getElem? h)
  rcases dk.room q with r | r
  · omega
  · omega
/-- what the program opens -/
inductive Op (caps : List Int) (hs : List (List Int)) (dl : List (Option Pr)) : Pr → Prop
  | free {q : Pr} : q ∈ pairsP caps.length → 0 < roomOf caps q → ((dl.count (some q) : Nat) : Int) < roomOf caps q → Op caps hs dl q
  | step {q q' : Pr} {n : Nat} : Op caps hs dl q' → dl[n]? = some (some q) → q'.1 ∈ at_ hs (n : Int) → q'.2 ∈ at_ hs (n : Int) → Op caps hs dl q
theorem Op.room (ok : PoolOk caps hs m) (dk : DealOk caps hs dl) {q : Pr} (o : Op caps hs dl q) : q ∈ pairsP caps.length ∧ 0 < roomOf caps q := by
  cases o with
  | free h1 h2 _ => exact ⟨h1, h2⟩
  | step _ h _ _ => have := dealt_in ok dk h; exact ⟨this.2.1, this.2.2.2.2⟩
end
end Zc
end

section
set_option Elab.async false
set_option linter.all false
set_option maxRecDepth 100000
set_option autoImplicit false
set_option maxHeartbeats 2000000
/-! One piece more. -/
namespace Zc
open PySem L2 Zk
theorem sumP_same {g g' : Pr → Int} : ∀ {P : List Pr}, (∀ q ∈ P, g q = g' q) → sumP g P = sumP g' P
  | [], _ => rfl
  | x :: P, h => by
    unfold sumP
    rw [h x List.mem_cons_self, sumP_same (P := P) fun y hy => h y (List.mem_cons_of_mem _ hy)]
section
variable {caps : List Int} {hs : List (List Int)} {m : Nat} {dl : List (Option Pr)}
end
end Zc
end

section
set_option Elab.async false
set_option linter.all false
set_option maxRecDepth 100000
set_option autoImplicit false
set_option maxHeartbeats 2000000
/-! A pool laid out t times on some of twelve seats. -/
namespace Zc
open PySem L2 Zk
/-- t copies -/
def copies {α : Type} (t : Nat) (xs : List α) : List α := (List.replicate t xs).flatten
theorem copies_len {α : Type} (t : Nat) (xs : List α) : (copies t xs).length = t * xs.length := by
  unfold copies
  rw [List.length_flatten, List.map_replicate, List.sum_replicate_nat]
theorem copies_get {α : Type} (xs : List α) : ∀ (t j : Nat), j < t * xs.length → (copies t xs)[j]? = xs[j % xs.length]?
  | 0, j, h => by omega
  | t + 1, j, h => by
    have e : copies (t + 1) xs = xs ++ copies t xs := by unfold copies; rw [List.replicate_succ, List.flatten_cons]
    rw [e]
    by_cases hj : j < xs.length
    · rw [List.getElem?_append_left hj, Nat.mod_eq_of_lt hj]
    · have h2 : (t + 1) * xs.length = t * xs.length + xs.length := Nat.succ_mul _ _
      rw [List.getElem?_append_right (by omega), copies_get xs t (j - xs.length) (by omega)]
      congr 1
      exact (Nat.mod_eq_sub_mod (by omega)).symm
/-- how many of range (t * n) have a remainder that T likes -/
theorem period_len (n : Nat) (T : Nat → Bool) : ∀ t : Nat, ((List.range (t * n)).filter fun j => T (j % n)).length = t * ((List.range n).filter T).length
  | 0 => by simp
  | t + 1 => by
    have e : List.range ((t + 1) * n) = List.range (t * n) ++ (List.range n).map (fun j => t * n + j) := by
      rw [Nat.succ_mul, List.range_add]
    rw [e, List.filter_append, List.length_append, period_len n T t, List.filter_map, List.length_map, Nat.succ_mul]
    congr 2
    refine List.filter_congr fun j hj => ?_
    show T ((t * n + j) % n) = T j
    rw [Nat.mul_comm t n, Nat.mul_add_mod, Nat.mod_eq_of_lt (List.mem_range.mp hj)]
/-- a pool laid out t times on the seats sp of twelve -/
structure Laid (caps : List Int) (hs : List (List Int)) (sp wide : List Int) (rows : List (List Int)) (t : Nat) : Prop where
  t1 : 1 ≤ t
  sl : sp.length = caps.length
  s0 : ∀ k : Int, 0 ≤ k → k < (caps.length : Nat) → 0 ≤ at_ sp k ∧ at_ sp k < 12
  inc : ∀ i j : Int, 0 ≤ i → i < j → j < (caps.length : Nat) → at_ sp i < at_ sp j
  wl : wide.length = 12
  w0 : ∀ x ∈ wide, 0 ≤ x ∧ x < 10 ^ 60
  wc : ∀ k : Int, 0 ≤ k → k < (caps.length : Nat) → at_ wide (at_ sp k) = at_ caps k * (t : Int)
  rw : rows = (copies t hs).map fun r => r.map (at_ sp)
def sig (sp : List Int) (q : Pr) : Pr := (at_ sp q.1, at_ sp q.2)
section
variable {caps : List Int} {hs : List (List Int)} {sp wide : List Int} {rows : List (List Int)} {t m : Nat}
theorem Laid.inj (l : Laid caps hs sp wide rows t) {i j : Int} (hi : 0 ≤ i ∧ i < (caps.length : Nat)) (hj : 0 ≤ j ∧ j < (caps.length : Nat)) (e : at_ sp i = at_ sp j) : i = j := by
  rcases Int.lt_trichotomy i j with z | z | z
  · have := l.inc i j hi.1 z hj.2; omega
  · exact z
  · have := l.inc j i hj.1 z hi.2; omega
theorem Laid.len (l : Laid caps hs sp wide rows t) : rows.length = t * hs.length := by rw [l.rw, List.length_map, copies_len]
theorem Laid.row (l : Laid caps hs sp wide rows t) {j : Nat} (hj : j < t * hs.length) : at_ rows (j : Int) = (at_ hs ((j % hs.length : Nat) : Int)).map (at_ sp) := by
  have hn : 0 < hs.length := by
    rcases Nat.eq_zero_or_pos hs.length with z | z
    · rw [z] at hj; simp at hj
    · exact z
  have h1 := copies_get hs t j hj
  have h2 := hs_at (hs := hs) (p := j % hs.length) (Nat.mod_lt _ hn)
  rw [h2] at h1
  refine at_eq (m := j) rfl ?_
  rw [l.rw, List.getElem?_map, h1]
  rfl
theorem Laid.mem (l : Laid caps hs sp wide rows t) (ok : PoolOk caps hs m) {p : Nat} (hp : p < hs.length) {x : Int} (hx : 0 ≤ x ∧ x < (caps.length : Nat)) : at_ sp x ∈ (at_ hs (p : Int)).map (at_ sp) ↔ x ∈ at_ hs (p : Int) := by
  have ha := ok.asc _ (List.mem_of_getElem? (hs_at hp))
  constructor
  · intro h
    obtain ⟨y, hy, e⟩ := List.mem_map.mp h
    rw [← l.inj (ha.2 y hy) hx e]
    exact hy
  · exact fun h => List.mem_map.mpr ⟨x, h, rfl⟩
/-- the kinds of a lot -/
def baseL (hs : List (List Int)) (L : List Int) : List Int := pickI hs.length fun p => L.any fun x => x.toNat % hs.length == p
def fullL (hs : List (List Int)) (t : Nat) (B : List Int) : List Int := pickI (t * hs.length) fun j => B.contains ((j % hs.length : Nat) : Int)
theorem base_mem {L : List Int} {x : Int} : x ∈ baseL hs L ↔ ∃ p : Nat, x = (p : Int) ∧ p < hs.length ∧ ∃ y ∈ L, y.toNat % hs.length = p := by
  unfold baseL
  rw [pickI_mem]
  constructor
  · rintro ⟨p, rfl, hp, h⟩
    obtain ⟨y, hy, e⟩ := List.any_eq_true.mp h
    exact ⟨p, rfl, hp, y, hy, eq_of_beq e⟩
  · rintro ⟨p, rfl, hp, y, hy, e⟩
    exact ⟨p, rfl, hp, List.any_eq_true.mpr ⟨y, hy, by rw [e]; exact beq_self_eq_true _⟩⟩
theorem Laid.tch (l : Laid caps hs sp wide rows t) (ok : PoolOk caps hs m) {L : List Int} (hL : Hold (t * hs.length) L) {q : Pr} (hq : q ∈ pairsP caps.length) : touch rows L (sig sp q) = touch hs (baseL hs L) q := by
  have hq2 := pairsP_mem.mp hq
  rw [Bool.eq_iff_iff, touch_iff, touch_iff]
  constructor
  · rintro ⟨y, hy, a, b⟩
    have h1 := hL.2 y hy
    have hn : 0 < hs.length := by
      rcases Nat.eq_zero_or_pos hs.length with z | z
      · rw [z] at h1; simp at h1; omega
      · exact z
    have hm := Nat.mod_lt y.toNat hn
    rw [show y = ((y.toNat : Nat) : Int) by omega, l.row (by omega)] at a b
    exact ⟨_, base_mem.mpr ⟨y.toNat % hs.length, rfl, hm, y, hy, rfl⟩, (l.mem ok hm ⟨hq2.1, by omega⟩).mp a, (l.mem ok hm ⟨by omega, hq2.2.2⟩).mp b⟩
  · rintro ⟨x, hx, a, b⟩
    obtain ⟨p, rfl, hp, y, hy, e⟩ := base_mem.mp hx
    have h1 := hL.2 y hy
    refine ⟨y, hy, ?_⟩
    rw [show y = ((y.toNat : Nat) : Int) by omega, l.row (by omega), e]
    exact ⟨(l.mem ok hp ⟨hq2.1, by omega⟩).mpr a, (l.mem ok hp ⟨by omega, hq2.2.2⟩).mpr b⟩
/-- no piece holds a seat beside sp -/
theorem Laid.beside (l : Laid caps hs sp wide rows t) (ok : PoolOk caps hs m) {L : List Int} (hL : Hold (t * hs.length) L) {q : Pr} (h : touch rows L q = true) (h2 : q.1 < q.2) : ∃ r, r ∈ pairsP caps.length ∧ sig sp r = q := by
  obtain ⟨y, hy, a, b⟩ := touch_iff.mp h
  have h1 := hL.2 y hy
  have hn : 0 < hs.length := by
    rcases Nat.eq_zero_or_pos hs.length with z | z
    · rw [z] at h1; simp at h1; omega
    · exact z
  have hm := Nat.mod_lt y.toNat hn
  rw [show y = ((y.toNat : Nat) : Int) by omega, l.row (by omega)] at a b
  obtain ⟨x1, hx1, e1⟩ := List.mem_map.mp a
  obtain ⟨x2, hx2, e2⟩ := List.mem_map.mp b
  have ha := ok.asc _ (List.mem_of_getElem? (hs_at hm))
  have r1 := ha.2 x1 hx1
  have r2 := ha.2 x2 hx2
  have lt : x1 < x2 := by
    rcases Int.lt_trichotomy x1 x2 with z | z | z
    · exact z
    · rw [z] at e1; omega
    · have := l.inc x2 x1 r2.1 z r1.2; omega
  exact ⟨(x1, x2), pairsP_mem.mpr ⟨r1.1, lt, r2.2⟩, Prod.ext e1 e2⟩
theorem sumP_filter {g : Pr → Int} {T : Pr → Bool} : ∀ {A : List Pr}, (∀ x ∈ A, T x = false → g x = 0) → sumP g A = sumP g (A.filter T)
  | [], _ => rfl
  | x :: A, h => by
    have ih := sumP_filter (A := A) fun y hy => h y (List.mem_cons_of_mem _ hy)
    rw [List.filter_cons]
    cases e : T x with
    | true => show g x + sumP g A = g x + sumP g _; rw [ih]
    | false =>
      have := h x List.mem_cons_self e
      show g x + sumP g A = sumP g (A.filter T)
      rw [ih, this, Int.zero_add]
theorem sumP_perm {g : Pr → Int} {A B : List Pr} (p : A.Perm B) : sumP g A = sumP g B := by
  induction p with
  | nil => rfl
  | cons x _ ih => show g x + _ = g x + _; rw [ih]
  | swap x y l => show g y + (g x + sumP g l) = g x + (g y + sumP g l); omega
  | trans _ _ h1 h2 => exact h1.trans h2
theorem sumP_mapT {g f : Pr → Int} {s : Pr → Pr} {c : Int} : ∀ {A : List Pr}, (∀ x ∈ A, g (s x) = f x * c) → sumP g (A.map s) = sumP f A * c
  | [], _ => by simp [sumP]
  | x :: A, h => by
    show g (s x) + sumP g (A.map s) = (f x + sumP f A) * c
    rw [h x List.mem_cons_self, sumP_mapT (A := A) fun y hy => h y (List.mem_cons_of_mem _ hy), Int.add_mul]
theorem Laid.room (l : Laid caps hs sp wide rows t) {q : Pr} (hq : q ∈ pairsP caps.length) : roomOf wide (sig sp q) = roomOf caps q * (t : Int) := by
  have hq2 := pairsP_mem.mp hq
  show (if at_ wide (at_ sp q.2) < at_ wide (at_ sp q.1) then at_ wide (at_ sp q.2) else at_ wide (at_ sp q.1)) = (if at_ caps q.2 < at_ caps q.1 then at_ caps q.2 else at_ caps q.1) * (t : Int)
  rw [l.wc q.1 hq2.1 (by omega), l.wc q.2 (by omega) hq2.2.2]
  have ht : (0 : Int) < (t : Int) := by have := l.t1; omega
  by_cases z : at_ caps q.2 < at_ caps q.1
  · rw [if_pos z, if_pos (Int.mul_lt_mul_of_pos_right z ht)]
  · rw [if_neg z, if_neg fun w => z (Int.lt_of_mul_lt_mul_right w (by omega))]
theorem Laid.sig_in (l : Laid caps hs sp wide rows t) {q : Pr} (hq : q ∈ pairsP caps.length) : sig sp q ∈ pairsP wide.length := by
  have hq2 := pairsP_mem.mp hq
  have a := l.s0 q.1 hq2.1 (by omega)
  have b := l.s0 q.2 (by omega) hq2.2.2
  exact pairsP_mem.mpr ⟨a.1, l.inc q.1 q.2 hq2.1 hq2.2.1 hq2.2.2, by rw [l.wl]; exact b.2⟩
theorem Laid.sig_inj (l : Laid caps hs sp wide rows t) {q r : Pr} (hq : q ∈ pairsP caps.length) (hr : r ∈ pairsP caps.length) (e : sig sp q = sig sp r) : q = r := by
  have hq2 := pairsP_mem.mp hq
  have hr2 := pairsP_mem.mp hr
  have e1 : at_ sp q.1 = at_ sp r.1 := congrArg Prod.fst e
  have e2 : at_ sp q.2 = at_ sp r.2 := congrArg Prod.snd e
  exact Prod.ext (l.inj ⟨hq2.1, by omega⟩ ⟨hr2.1, by omega⟩ e1) (l.inj ⟨by omega, hq2.2.2⟩ ⟨by omega, hr2.2.2⟩ e2)
theorem Laid.places (l : Laid caps hs sp wide rows t) (ok : PoolOk caps hs m) {L : List Int} (hL : Hold (t * hs.length) L) : placesP wide rows L = placesP caps hs (baseL hs L) * (t : Int) := by
  have hn : ((pairsP caps.length).map (sig sp)).Nodup := by
    refine List.pairwise_map.mpr ((pairsP_nodup caps.length).imp_of_mem fun {a b} ha hb hne e => hne (l.sig_inj ha hb e))
  have e1 : sumP (gP wide rows L) (pairsP wide.length) = sumP (gP wide rows L) ((pairsP wide.length).filter fun q => decide (q ∈ (pairsP caps.length).map (sig sp))) := sumP_filter fun q hq hT => by
    unfold gP
    split
    · rename_i h
      obtain ⟨r, h1, h2⟩ := l.beside ok hL h (pairsP_mem.mp hq).2.1
      have := of_decide_eq_false hT
      exact absurd (List.mem_map.mpr ⟨r, h1, h2⟩) this
    · rfl
  have e2 : ((pairsP wide.length).filter fun q => decide (q ∈ (pairsP caps.length).map (sig sp))).Perm ((pairsP caps.length).map (sig sp)) := (List.perm_ext_iff_of_nodup ((pairsP_nodup _).sublist List.filter_sublist) hn).mpr fun q => by
    rw [List.mem_filter, decide_eq_true_eq]
    refine ⟨fun h => h.2, fun h => ⟨?_, h⟩⟩
    obtain ⟨r, h1, rfl⟩ := List.mem_map.mp h
    exact l.sig_in h1
  unfold placesP
  rw [e1, sumP_perm e2]
  refine sumP_mapT fun q hq => ?_
  unfold gP
  rw [l.tch ok hL hq]
  split
  · exact l.room hq
  · rw [Int.zero_mul]
theorem full_len {B : List Int} (hB : Hold hs.length B) : (fullL hs t B).length = t * B.length := by
  unfold fullL pickI
  rw [List.length_map, period_len hs.length (fun p => B.contains ((p : Nat) : Int)) t]
  congr 1
  have e : (((List.range hs.length).filter fun p => B.contains ((p : Nat) : Int)).map fun i => ((i : Nat) : Int)).length = B.length := by
    refine Nat.le_antisymm (nodup_sub (Asc.hold (pickI_asc hs.length fun p => B.contains ((p : Nat) : Int))).1 fun x hx => ?_) (nodup_sub hB.1 fun x hx => ?_)
    · obtain ⟨p, rfl, _, h⟩ := pickI_mem.mp hx
      simpa using h
    · have := hB.2 x hx
      refine pickI_mem.mpr ⟨x.toNat, by omega, by omega, ?_⟩
      rw [show ((x.toNat : Nat) : Int) = x by omega]
      simpa using hx
  rw [List.length_map] at e
  exact e
theorem base_hold (L : List Int) : Hold hs.length (baseL hs L) := Asc.hold (pickI_asc _ _)
theorem full_hold (B : List Int) : Hold (t * hs.length) (fullL hs t B) := Asc.hold (pickI_asc _ _)
theorem le_full {L : List Int} (hL : Hold (t * hs.length) L) : L.length ≤ t * (baseL hs L).length := by
  rw [← full_len (base_hold L)]
  refine nodup_sub hL.1 fun y hy => ?_
  have h1 := hL.2 y hy
  have hn : 0 < hs.length := by
    rcases Nat.eq_zero_or_pos hs.length with z | z
    · rw [z] at h1; simp at h1; omega
    · exact z
  refine pickI_mem.mpr ⟨y.toNat, by omega, by omega, ?_⟩
  have : ((y.toNat % hs.length : Nat) : Int) ∈ baseL hs L := base_mem.mpr ⟨_, rfl, Nat.mod_lt _ hn, y, hy, rfl⟩
  simpa using this
theorem base_full (h1 : 1 ≤ t) {B : List Int} (hB : Hold hs.length B) {x : Int} : x ∈ baseL hs (fullL hs t B) ↔ x ∈ B := by
  rw [base_mem]
  constructor
  · rintro ⟨p, rfl, hp, y, hy, e⟩
    obtain ⟨j, rfl, hj, h⟩ := pickI_mem.mp hy
    rw [Int.toNat_natCast] at e
    rw [e] at h
    simpa using h
  · intro hx
    have := hB.2 x hx
    have hlt : x.toNat < t * hs.length := Nat.lt_of_lt_of_le (show x.toNat < hs.length by omega) (Nat.le_mul_of_pos_left _ h1)
    refine ⟨x.toNat, by omega, by omega, x, pickI_mem.mpr ⟨x.toNat, by omega, hlt, ?_⟩, Nat.mod_eq_of_lt (by omega)⟩
    rw [Nat.mod_eq_of_lt (by omega), show ((x.toNat : Nat) : Int) = x by omega]
    simpa using hx
theorem touch_same {L L' : List Int} (h : ∀ x, x ∈ L ↔ x ∈ L') (q : Pr) : touch hs L q = touch hs L' q := by
  rw [Bool.eq_iff_iff, touch_iff, touch_iff]
  exact exists_congr fun x => and_congr_left fun _ => h x
theorem places_same {L L' : List Int} (h : ∀ x, x ∈ L ↔ x ∈ L') : placesP caps hs L = placesP caps hs L' := by
  unfold placesP
  exact sumP_same fun q _ => by unfold gP; rw [touch_same h]
/-- lacks of the laid out pool -/
theorem Laid.lack_le (l : Laid caps hs sp wide rows t) (ok : PoolOk caps hs m) {L : List Int} (hL : Hold (t * hs.length) L) : (L.length : Int) - placesP wide rows L ≤ (((baseL hs L).length : Int) - placesP caps hs (baseL hs L)) * (t : Int) := by
  rw [l.places ok hL, Int.sub_mul]
  have h1 := le_full hL
  have h2 : ((t * (baseL hs L).length : Nat) : Int) = ((baseL hs L).length : Int) * (t : Int) := by rw [Int.natCast_mul, Int.mul_comm]
  omega
theorem Laid.lack_full (l : Laid caps hs sp wide rows t) (ok : PoolOk caps hs m) {B : List Int} (hB : Hold hs.length B) : ((fullL hs t B).length : Int) - placesP wide rows (fullL hs t B) = ((B.length : Int) - placesP caps hs B) * (t : Int) := by
  rw [l.places ok (full_hold B), places_same (fun x => base_full l.t1 hB), full_len hB, Int.sub_mul, Int.natCast_mul, Int.mul_comm]
end
end Zc
end

section
set_option Elab.async false
set_option linter.all false
set_option maxRecDepth 100000
set_option autoImplicit false
set_option maxHeartbeats 2000000
/-! The open pairs of a pool laid out. -/
namespace Zc
open PySem L2 Zk
section
variable {caps : List Int} {hs : List (List Int)} {sp wide : List Int} {rows : List (List Int)} {t m : Nat}
theorem Laid.lackP (l : Laid caps hs sp wide rows t) (ok : PoolOk caps hs m) : Zc.lackP wide rows = Zc.lackP caps hs * (t : Int) := by
  obtain ⟨a1, a2, a3⟩ := lack_fold (caps := caps) (hs := hs) (lotsL hs.length) 0
  obtain ⟨b1, b2, b3⟩ := lack_fold (caps := wide) (hs := rows) (lotsL rows.length) 0
  have ea : (lotsL hs.length).foldl (lackStep caps hs) 0 = Zc.lackP caps hs := rfl
  have eb : (lotsL rows.length).foldl (lackStep wide rows) 0 = Zc.lackP wide rows := rfl
  rw [ea] at a1 a2 a3
  rw [eb] at b1 b2 b3
  rw [l.len] at b2 b3
  have ht : (0 : Int) ≤ (t : Int) := by omega
  refine Int.le_antisymm ?_ ?_
  · rcases b3 with z | ⟨L, hL, z⟩
    · rw [z]; exact Int.mul_nonneg a1 ht
    · rw [z]
      refine Int.le_trans (l.lack_le ok (lotsL_hold hL)) (Int.mul_le_mul_of_nonneg_right (a2 _ ?_) ht)
      exact lotsL_pick _ hs.length
  · rcases a3 with z | ⟨L, hL, z⟩
    · rw [z, Int.zero_mul]; exact b1
    · rw [z, ← l.lack_full ok (lotsL_hold hL)]
      exact b2 _ (lotsL_pick _ (t * hs.length))
end
end Zc
end

section
set_option Elab.async false
set_option linter.all false
set_option maxRecDepth 100000
set_option maxHeartbeats 4000000
/-! The pool laid out on twelve seats, as a program. -/
namespace Zc
open PySem L2 Zk
section
variable {caps : List Int} {hs : List (List Int)} {m : Nat}
/-- the seats, as far as k -/
structure SpL (sp : List Int) (k : Nat) : Prop where
  len : sp.length = k
  rng : ∀ j : Int, 0 ≤ j → j < (k : Nat) → 0 ≤ at_ sp j ∧ at_ sp j ≤ 3 + 2 * j
  inc : ∀ i j : Int, 0 ≤ i → i < j → j < (k : Nat) → at_ sp i < at_ sp j
theorem SpL.more {sp : List Int} {k : Nat} (s : SpL sp k) (h1 : 1 ≤ k) {d : Int} (hd : 0 ≤ d ∧ d < 2) : SpL (sp ++ [at_ sp ((k : Int) - 1) + 1 + d]) (k + 1) := by
  have hl := s.len
  have old : ∀ j : Int, 0 ≤ j → j < (k : Nat) → at_ (sp ++ [at_ sp ((k : Int) - 1) + 1 + d]) j = at_ sp j := fun j h0 hj => by
    have := at_get (xs := sp) h0 (by omega)
    exact at_eq (m := j.toNat) (by omega) (by rw [List.getElem?_append_left (by omega)]; exact this)
  have new : at_ (sp ++ [at_ sp ((k : Int) - 1) + 1 + d]) (k : Int) = at_ sp ((k : Int) - 1) + 1 + d := at_eq (m := k) rfl (by rw [List.getElem?_append_right (by omega), hl, Nat.sub_self]; rfl)
  have hb := s.rng ((k : Int) - 1) (by omega) (by omega)
  refine ⟨by rw [List.length_append, hl]; rfl, fun j h0 hj => ?_, fun i j h0 hij hj => ?_⟩
  · by_cases e : j < (k : Nat)
    · rw [old j h0 e]; exact s.rng j h0 e
    · rw [show j = (k : Int) by omega, new]; omega
  · by_cases e : j < (k : Nat)
    · rw [old j (by omega) e, old i h0 (by omega)]; exact s.inc i j h0 hij e
    · rw [show j = (k : Int) by omega, new, old i h0 (by omega)]
      by_cases e2 : i = (k : Int) - 1
      · rw [e2]; omega
      · have := s.inc i ((k : Int) - 1) h0 (by omega) (by omega); omega
end
end Zc
end

section
set_option Elab.async false
set_option linter.all false
set_option maxRecDepth 100000
set_option maxHeartbeats 4000000
/-! The least lot of greatest lack. -/
namespace Zc
open PySem L2 Zk
section
variable {g : Gm} {d e : D} {ds es : List D} {i : Nat} {q : Pr} {kvs more : List (Key × D)} {tvs : List (List Key × D)} {o : Option Wd} {a k : DF}
end
theorem enumL_range {n : Nat} (f : Nat → D) : enumL 0 ((List.range n).map f) = (List.range n).map fun j => .tup [.int (j : Int), f j] := by
  apply List.ext_getElem?
  intro i
  rw [List.getElem?_map]
  rcases Nat.lt_or_ge i n with h | h
  · rw [List.getElem?_range h]
    cases e : (enumL 0 ((List.range n).map f))[i]? with
    | none =>
      exfalso
      have := enumL_len 0 ((List.range n).map f)
      rw [List.length_map, List.length_range] at this
      have := List.getElem?_eq_none_iff.mp e
      omega
    | some d =>
      obtain ⟨d', h1, rfl⟩ := Zk.enumL_get 0 _ i d e
      rw [List.getElem?_map, List.getElem?_range h] at h1
      cases h1
      rw [Nat.zero_add]
      rfl
  · have hl := enumL_len 0 ((List.range n).map f)
    rw [List.length_map, List.length_range] at hl
    rw [List.getElem?_eq_none (by omega), List.getElem?_eq_none (by rw [List.length_range]; exact h)]
    rfl
/-! ### what is reached -/
inductive Rch (n : Nat) (ls : List (List Pr)) (rw : Nat → List (List Key × D)) (rv : Nat → Int) : Nat → Prop
  | base {k : Nat} : k < n → 0 < rv k → Rch n ls rw rv k
  | step {k j : Nat} {q : Pr} : Rch n ls rw rv k → q ∈ at_ ls (k : Int) → j < n → (getK (rw j) (prK q)).isSome = true → Rch n ls rw rv j
/-- what the search knows -/
structure Bfr (n : Nat) (ls : List (List Pr)) (rw : Nat → List (List Key × D)) (rv : Nat → Int) (tk : Tk) (lv : List (Int × D)) : Prop where
  hold : Hold n (lv.map (·.1))
  rch : ∀ k : Nat, (k : Int) ∈ lv.map (·.1) → Rch n ls rw rv k
  base : ∀ k : Nat, k < n → 0 < rv k → (k : Int) ∈ lv.map (·.1)
  out : ∀ q ∈ keys tk, ∀ j : Nat, j < n → (getK (rw j) (prK q)).isSome = true → (j : Int) ∈ lv.map (·.1)
def comeL (n : Nat) (rw : Nat → List (List Key × D)) (lv : List (Int × D)) (q : Pr) : List Int := pickI n fun j => (getK (rw j) (prK q)).isSome && !decide ((j : Int) ∈ lv.map (·.1))
theorem Bfr.more {n : Nat} {ls : List (List Pr)} {rw : Nat → List (List Key × D)} {rv : Nat → Int} {tk : Tk} {lv : List (Int × D)} (b : Bfr n ls rw rv tk lv) {k : Nat} (hk : (k : Int) ∈ lv.map (·.1)) {q : Pr} (hq : q ∈ at_ ls (k : Int)) (p : Int) (d : D) :
    Bfr n ls rw rv (tk ++ [(q, p)]) (lv ++ (comeL n rw lv q).map fun j => (j, d)) := by
  have e : (lv ++ (comeL n rw lv q).map fun j => (j, d)).map (·.1) = lv.map (·.1) ++ comeL n rw lv q := by
    rw [List.map_append, List.map_map]
    congr 1
    exact List.map_id _
  have hc : Asc n (comeL n rw lv q) := pickI_asc n _
  refine ⟨?_, ?_, ?_, ?_⟩
  · rw [e]
    refine ⟨List.nodup_append.mpr ⟨b.hold.1, hc.nodup, fun x hx y hy z => ?_⟩, fun x hx => ?_⟩
    · subst z
      obtain ⟨i, rfl, h1, h2⟩ := pickI_mem.mp hy
      rw [Bool.and_eq_true] at h2
      rw [decide_eq_true hx] at h2
      cases h2.2
    · rcases List.mem_append.mp hx with z | z
      · exact b.hold.2 x z
      · exact hc.2 x z
  · rw [e]
    intro j hj
    rcases List.mem_append.mp hj with z | z
    · exact b.rch j z
    · obtain ⟨i, e1, h1, h2⟩ := pickI_mem.mp z
      have : j = i := by omega
      subst this
      rw [Bool.and_eq_true] at h2
      exact .step (b.rch k hk) hq h1 h2.1
  · rw [e]
    exact fun j h1 h2 => List.mem_append_left _ (b.base j h1 h2)
  · rw [e]
    intro r hr j hj h
    unfold keys at hr
    rw [List.map_append, List.mem_append] at hr
    rcases hr with z | z
    · exact List.mem_append_left _ (b.out r z j hj h)
    · have z : r = q := by simpa using z
      subst z
      by_cases w : (j : Int) ∈ lv.map (·.1)
      · exact List.mem_append_left _ w
      · refine List.mem_append_right _ (pickI_mem.mpr ⟨j, rfl, hj, ?_⟩)
        rw [h, decide_eq_false w]
        rfl
end Zc
end

section
set_option Elab.async false
set_option linter.all false
set_option maxRecDepth 100000
set_option maxHeartbeats 4000000
/-! Least lots: one only; of a pool laid out. -/
namespace Zc
open PySem L2 Zk
theorem asc_eq {n : Nat} {A B : List Int} (a : Asc n A) (b : Asc n B) (h : ∀ x, x ∈ A ↔ x ∈ B) : A = B :=
  perm_sorted ((List.perm_ext_iff_of_nodup a.nodup b.nodup).mpr h) (a.1.imp fun q => by omega) (b.1.imp fun q => by omega)
section
variable {caps : List Int} {hs : List (List Int)} {m : Nat} {dl : List (Option Pr)}
/-- of greatest lack -/
def Gl (caps : List Int) (hs : List (List Int)) (L : List Int) : Prop := (L.length : Int) - placesP caps hs L = lackP caps hs
structure LeastLot (caps : List Int) (hs : List (List Int)) (S : List Int) : Prop where
  asc : Asc hs.length S
  gl : Gl caps hs S
  sub : ∀ L, Hold hs.length L → Gl caps hs L → ∀ x ∈ S, x ∈ L
theorem LeastLot.one {S S' : List Int} (a : LeastLot caps hs S) (b : LeastLot caps hs S') : S = S' :=
  asc_eq a.asc b.asc fun x => ⟨a.sub S' (Asc.hold b.asc) b.gl x, b.sub S (Asc.hold a.asc) a.gl x⟩
/-! ### laid out -/
variable {sp wide : List Int} {rows : List (List Int)} {t : Nat}
theorem copies_mem2 {α : Type} {xs : List α} {x : α} (h : x ∈ copies t xs) : x ∈ xs := by
  unfold copies at h
  obtain ⟨l, h1, h2⟩ := List.mem_flatten.mp h
  rw [(List.mem_replicate.mp h1).2] at h2
  exact h2
theorem Laid.pool (l : Laid caps hs sp wide rows t) (ok : PoolOk caps hs m) {M : Nat} (hM : t * m ≤ M) : PoolOk wide rows M := by
  have hpm := ok.pm
  refine ⟨by rw [l.wl]; omega, by rw [l.wl]; omega, l.w0, ?_, fun r hr => ?_⟩
  · rw [l.len]
    exact Nat.le_trans (Nat.mul_le_mul (Nat.le_refl t) hpm) hM
  · rw [l.rw] at hr
    obtain ⟨r0, h0, rfl⟩ := List.mem_map.mp hr
    have ha := ok.asc r0 (copies_mem2 h0)
    refine ⟨List.pairwise_map.mpr (ha.1.imp_of_mem fun {a b} hx hy hlt => l.inc a b (ha.2 a hx).1 hlt (ha.2 b hy).2), fun h hh => ?_⟩
    obtain ⟨a, hx, rfl⟩ := List.mem_map.mp hh
    rw [l.wl]
    exact l.s0 a (ha.2 a hx).1 (ha.2 a hx).2
end
end Zc
end

section
set_option Elab.async false
set_option linter.all false
set_option maxRecDepth 100000
set_option maxHeartbeats 4000000
/-! The pairs of a lot; its lack; a greatest dealing judged. -/
namespace Zc
open PySem L2 Zk
section
variable {caps : List Int} {hs : List (List Int)} {m : Nat}
theorem DealOk.deal {dl : List (Option Pr)} (ok : PoolOk caps hs m) (d : DealOk caps hs dl) : IsDeal caps hs dl where
  len := d.len
  held := fun p q e => by
    obtain ⟨h, h1, h2⟩ := d.held p q e
    have ha := ok.asc h (List.mem_of_getElem? h1)
    have := (heldP_mem ha q).mp h2
    have e2 : at_ hs (p : Int) = h := at_eq rfl h1
    rw [e2]
    exact ⟨this.2.2.1, this.1, this.2.1⟩
  room := fun q hq => by
    rcases d.room q with z | z
    · have := List.count_pos_iff.mpr hq
      omega
    · exact z
theorem IsDeal.ok {dl : List (Option Pr)} (ok : PoolOk caps hs m) (d : IsDeal caps hs dl) : DealOk caps hs dl where
  len := d.len
  held := fun p q e => by
    obtain ⟨h1, h2, h3⟩ := d.held p q e
    have hp : p < hs.length := by rw [← d.len]; exact (List.getElem?_eq_some_iff.mp e).1
    have hr := d.room q (List.mem_of_getElem? e)
    have hc := List.count_pos_iff.mpr (List.mem_of_getElem? e)
    exact ⟨_, hs_at hp, (heldP_mem (ok.asc _ (at_mem (by omega) (by omega))) q).mpr ⟨h2, h3, h1, by omega⟩⟩
  room := fun q => by
    by_cases hq : some q ∈ dl
    · exact .inr (d.room q hq)
    · exact .inl (List.count_eq_zero.mpr hq)
end
end Zc
end

section
set_option Elab.async false
set_option linter.all false
set_option maxRecDepth 100000
set_option maxHeartbeats 4000000
/-! raised, least_raise (namespace Zp): made by mkZfI.py of K13n. -/
namespace Zp
open PySem L2 Zk Zc
abbrev PD (c : Cs) (caps : List Int) (hs : List (List Int)) : D := Zc.poolD c caps hs
theorem fp_caps {c : Cs} {caps : List Int} {hs : List (List Int)} : fldD c.Pool "caps" (PD c caps hs) = some (.tup (iL caps)) := Zc.fld_caps (c := c)
theorem fp_holders {c : Cs} {caps : List Int} {hs : List (List Int)} : fldD c.Pool "holders" (PD c caps hs) = some (.tup (rowsT hs)) := Zc.fld_holders (c := c)
theorem fp_pieces {c : Cs} {caps : List Int} {hs : List (List Int)} : fldD c.Pool "pieces" (PD c caps hs) = some (.int (hs.length : Nat)) := Zc.fld_pieces (c := c)
theorem srt_rows {n : Nat} : ∀ {hs : List (List Int)}, (∀ h ∈ hs, Asc n h) → hs.map srt = hs
  | [], _ => rfl
  | h :: hs, ha => by rw [List.map_cons, srt_asc (ha h List.mem_cons_self), srt_rows fun k hk => ha k (List.mem_cons_of_mem _ hk)]
section
variable {caps : List Int} {hs : List (List Int)} {m : Nat}
theorem make_spec (c : Cs) (ok : PoolOk caps hs m) (hm : m ≤ 100) : apMake c.Pool 2 (g_Pool_init c) (some [.lst (iL caps), .lst (rowsL hs)]) = some (PD c caps hs) := by
  rw [apMake_some (show ([D.lst (iL caps), D.lst (rowsL hs)] : List D).length = 2 from rfl), Pool_init_spec c ok.s1 (by have := ok.s12; omega) (fun x hx => (ok.c0 x hx).1) (by have := ok.pm; omega) (fun h hh => Zc.Asc.hold (ok.asc h hh)), srt_rows ok.asc]
  rfl
end
end Zp
end

section
set_option Elab.async false
set_option linter.all false
set_option maxRecDepth 100000
set_option maxHeartbeats 4000000
/-! Texts as lists of codes: what operations on them are worth as data. -/
namespace Zj
open PySem L2 Zk Zc
open SX (S)
/-- the text of these codes -/
def dS (l : List Nat) : D := .str (SX.S l)
def codes (s : String) : List Nat := s.toList.map Char.toNat
def asc (a : List Nat) : Bool := a.all (· < 128)
/-! ### numbers -/
def num (c : Int) : List Nat := TL.numL c.toNat
theorem log2_lt {n k : Nat} (hk : 0 < k) (h : n < 2 ^ k) : n.log2 < k := by
  by_cases h0 : n = 0
  · subst h0; exact hk
  · exact (Nat.log2_lt h0).mpr h
theorem num_len {c : Int} (h0 : 0 ≤ c) (h : c < 10 ^ 60) : (num c).length ≤ 60 := TL.numL_len (by decide) (by omega)
theorem num_free {c : Int} {s : Nat} (h : s < 48 ∨ 57 < s) : s ∉ num c := TL.numL_free h
def dig (c : Nat) : Bool := decide (48 ≤ c) && decide (c ≤ 57)
theorem num_dig (c : Int) : (num c).all dig = true := List.all_eq_true.mpr fun x hx => by
  have := TL.numL_digits c.toNat x hx
  unfold dig
  rw [Bool.and_eq_true, decide_eq_true_eq, decide_eq_true_eq]
  exact this
/-- a word that is a number: digits, and no 0 ahead of others -/
def isNum (a : List Nat) : Bool := (!a.isEmpty && a.all dig) && (decide (a = [48]) || !decide (a.take 1 = [48]))
/-! ### split, join, slices, partition -/
/-! ### walking -/
end Zj
end

section
set_option Elab.async false
set_option linter.all false
set_option maxRecDepth 100000
set_option maxHeartbeats 4000000
/-! The texts of pools. -/
namespace Zd
open PySem L2 Zk Zc Zj
def wSeats : List Nat := codes "seats"
def wPiece : List Nat := codes "piece"
def NumsOk (ns : List Int) : Prop := ns.length ≤ 100 ∧ ∀ n ∈ ns, 0 ≤ n ∧ n < 10 ^ 60
theorem dig_asc {a : List Nat} (h : a.all dig = true) : asc a = true := List.all_eq_true.mpr fun c hc => by
  have := List.all_eq_true.mp h c hc
  unfold dig at this
  rw [Bool.and_eq_true, decide_eq_true_eq, decide_eq_true_eq] at this
  rw [decide_eq_true_eq]
  omega
theorem num_asc (c : Int) : asc (num c) = true := dig_asc (num_dig c)
/-! ### one line -/
/-! ### the text as the law lays it -/
structure TextOk (caps : List Int) (hs : List (List Int)) : Prop where
  c : NumsOk caps
  hl : hs.length ≤ 100
  h : ∀ h ∈ hs, NumsOk h ∧ h.length ≤ 12
  cl : caps.length ≤ 12
/-! ### the text as the program writes it -/
/-! ### numbers behind a word -/
def val (a : List Nat) : Int := ((NumText.digitsVal a : Nat) : Int)
end Zd
end

section
set_option Elab.async false
set_option linter.all false
set_option maxRecDepth 100000
set_option maxHeartbeats 4000000
/-! Texts as lists of codes: slices, joins of single signs, fields. -/
namespace Zj
open PySem L2 Zk Zc
def apSl : Option D → Option (Option Int) → Option (Option Int) → Option D := fun x l h => x.bind fun x => l.bind fun l => h.bind fun h => slSD x l h
/-! ### fields of f-strings -/
/-! ### numbers that are written with signs ahead -/
end Zj
end

section
set_option Elab.async false
set_option linter.all false
set_option maxRecDepth 100000
set_option maxHeartbeats 4000000
/-! Records read: what the program's reading is worth, for any text of ASCII signs. -/
namespace Rk
open PySem L2 Zk Zc Zj Zd
/-! ### a text cut at a sign -/
abbrev L := List Nat
abbrev Ws := List (List Nat)
def cut (c : Nat) : L → L × Option L
  | [] => ([], none)
  | x :: r => if x = c then ([], some r) else (x :: (cut c r).1, (cut c r).2)
/-- the parts between the signs c -/
def sp (c : Nat) (a : L) : Ws := TL.spl [c] 0 [] a
/-! ### names, numbers -/
def nch (c : Nat) : Bool := (decide (97 ≤ c) && decide (c ≤ 122)) || (decide (48 ≤ c) && decide (c ≤ 57))
def isName (a : L) : Bool := (decide (1 ≤ a.length) && decide (a.length ≤ 12)) && a.all nch
/-! ### `in`, index, == over what is laid out -/
theorem any_map {α : Type} {p : α → PyData} {b : α → Bool} {q : PyData} : ∀ {xs : List α}, (∀ x ∈ xs, PyData.eqv (p x) q = b x) → ((xs.map p).any fun z => PyData.eqv z q) = xs.any b
  | [], _ => rfl
  | x :: xs, h => by
    rw [List.map_cons, List.any_cons, List.any_cons, h x List.mem_cons_self, any_map fun y m => h y (List.mem_cons_of_mem _ m)]
theorem ca : codes "a" = [97] := (rfl)
theorem c0 : codes "0" = [48] := (rfl)
/-! ### rising -/
def riseL {α : Type} (lt : α → α → Bool) : List α → Bool
  | x :: y :: r => lt x y && riseL lt (y :: r)
  | _ => true
def ltI (x y : Int) : Bool := decide (x < y)
def ltS (x y : L) : Bool := decide (x < y)
end Rk
end

section
set_option Elab.async false
set_option linter.all false
set_option maxRecDepth 100000
set_option maxHeartbeats 4000000
/-! Records read, at last: a picture, a put, a deal, a cap, an erase. -/
namespace Rk
open PySem L2 Zk Zc Zj Zd
inductive Rec where
  | pic (caps : List Int) (ns : List (L × List Int)) (es : List (Int × Int × Int))
  | put (n : L) (is : List Int) (es : List (Int × Int × Int))
  | era (n : L)
  | deal (es : List (Int × Int × Int))
  | cap (s c : Int) (es : List (Int × Int × Int))
end Rk
end

section
set_option Elab.async false
set_option linter.all false
set_option maxRecDepth 100000
set_option maxHeartbeats 4000000
/-! Lines as words; texts that are no pool's. -/
namespace Zd
open PySem L2 Zk Zc Zj
abbrev Ws := List (List Nat)
structure WsOk (ws : Ws) : Prop where
  ne : ws ≠ []
  ln : ws.length ≤ 30
  w : ∀ p ∈ ws, 32 ∉ p ∧ 10 ∉ p ∧ asc p = true ∧ p.length ≤ 90
def behW (w : List Nat) : Ws → Option (List Int)
  | [] => none
  | p :: ps => if p = w ∧ ps.all isNum = true then some (ps.map val) else none
/-! ### rows and what is behind them -/
/-! ### which row is the first wrong one -/
def okPiece (n : Nat) (ws : Ws) : Prop := ∃ ns, behW wPiece ws = some ns ∧ Asc n ns
inductive Bad (R : List Ws) (rest : List Nat) : Nat → Prop where
  | first (h : ∀ ws, R.head? = some ws → ∀ cs, behW wSeats ws = some cs → cs = []) : Bad R rest 0
  | row {k : Nat} {ws0 ws : Ws} {R' : List Ws} {cs : List Int} (e : R = ws0 :: R') (h0 : behW wSeats ws0 = some cs) (hc : cs ≠ []) (hk : R'[k]? = some ws) (hb : ∀ (j : Nat) (v : Ws), j < k → R'[j]? = some v → okPiece cs.length v) (hw : ¬ okPiece cs.length ws) : Bad R rest (k + 1)
  | rest {ws0 : Ws} {R' : List Ws} {cs : List Int} (e : R = ws0 :: R') (h0 : behW wSeats ws0 = some cs) (hc : cs ≠ []) (hb : ∀ v ∈ R', okPiece cs.length v) (hr : rest ≠ []) : Bad R rest (R'.length + 1)
/-! ### the rows of a pool -/
structure RowsOk (caps : List Int) (hs : List (List Int)) : Prop where
  c1 : caps ≠ []
  c12 : caps.length ≤ 12
  c0 : ∀ x ∈ caps, 0 ≤ x ∧ x < 10 ^ 60
  hl : hs.length ≤ 26
  asc : ∀ h ∈ hs, Asc caps.length h
theorem num_ok {c : Int} (h0 : 0 ≤ c) (h : c < 10 ^ 60) : 32 ∉ num c ∧ 10 ∉ num c ∧ asc (num c) = true ∧ (num c).length ≤ 90 := ⟨num_free (Or.inl (by decide)), num_free (Or.inl (by decide)), num_asc c, by have := num_len h0 h; omega⟩
theorem ws_nums {w : List Nat} {ns : List Int} (hw : 32 ∉ w ∧ 10 ∉ w ∧ asc w = true ∧ w.length ≤ 90) (h0 : ∀ x ∈ ns, 0 ≤ x ∧ x < 10 ^ 60) (hl : ns.length ≤ 29) : WsOk (w :: ns.map num) := ⟨by simp, by simp; omega, fun p hp => by
  rcases List.mem_cons.mp hp with rfl | hp
  · exact hw
  · obtain ⟨x, hx, rfl⟩ := List.mem_map.mp hp
    exact num_ok (h0 x hx).1 (h0 x hx).2⟩
section
variable {caps : List Int} {hs : List (List Int)}
theorem asc_bd {n : Nat} {h : List Int} (hn : n ≤ 12) (ha : Asc n h) : (∀ x ∈ h, 0 ≤ x ∧ x < 10 ^ 60) ∧ h.length ≤ 12 := by
  have hl := ha.len
  refine ⟨fun x hx => ?_, by omega⟩
  have := ha.2 x hx
  exact ⟨this.1, Int.lt_trans this.2 (by have : (n : Int) ≤ 12 := by omega
                                         exact Int.lt_of_le_of_lt this (by decide))⟩
/-- the kind of a row: the first, or a piece's -/
inductive RowIs (n : Nat) : List Nat → List Int → Prop where
  | seats {ns : List Int} (h : ns ≠ []) (h2 : ns.length ≤ 12) (h0 : ∀ x ∈ ns, 0 ≤ x ∧ x < 10 ^ 60) : RowIs n wSeats ns
  | piece {ns : List Int} (h : Asc n ns) : RowIs n wPiece ns
theorem RowIs.bd {n : Nat} {w : List Nat} {ns : List Int} (hn : n ≤ 12) (h : RowIs n w ns) : (∀ x ∈ ns, 0 ≤ x ∧ x < 10 ^ 60) ∧ ns.length ≤ 12 := by
  cases h with
  | seats h h2 h0 => exact ⟨h0, h2⟩
  | piece h => exact asc_bd hn h
theorem RowIs.wd {n : Nat} {w : List Nat} {ns : List Int} (h : RowIs n w ns) : 32 ∉ w ∧ 10 ∉ w ∧ Zj.asc w = true ∧ w.length = 5 := by
  cases h with
  | seats h h2 h0 => decide
  | piece h => decide
theorem RowIs.ws {n : Nat} {w : List Nat} {ns : List Int} (hn : n ≤ 12) (h : RowIs n w ns) : WsOk (w :: ns.map num) := ws_nums ⟨h.wd.1, h.wd.2.1, h.wd.2.2.1, by have := h.wd.2.2.2; omega⟩ (h.bd hn).1 (by have := (h.bd hn).2; omega)
end
end Zd
end

section
set_option Elab.async false
set_option linter.all false
set_option maxRecDepth 100000
set_option maxHeartbeats 4000000
/-! The text of a record, and that it reads as the record. -/
namespace Rk
open PySem L2 Zk Zc Zj Zd
def joinN (ns : List Int) : L := TL.joinL [44] (ns.map num)
def wdT (e : Int × Int × Int) : L := num e.1 ++ 58 :: joinN [e.2.1, e.2.2]
def nmT (n : L × List Int) : L := n.1 ++ 61 :: joinN n.2
def wordsOf : Rec → Ws
  | .pic caps ns es => codes "picture" :: joinN caps :: (ns.map nmT ++ [47] :: es.map wdT)
  | .put n is es => codes "put" :: nmT (n, is) :: [47] :: es.map wdT
  | .era n => [codes "erase", n]
  | .deal es => codes "deal" :: [47] :: es.map wdT
  | .cap s c es => codes "cap" :: num s :: num c :: [47] :: es.map wdT
def bodyOf (r : Rec) : L := TL.joinL [32] (wordsOf r)
def textOf (r : Rec) : L := bodyOf r ++ [59]
structure NumOk (x : Int) : Prop where
  h0 : 0 ≤ x
  h1 : x < 10 ^ 60
structure EsOk (es : List (Int × Int × Int)) : Prop where
  n : ∀ e ∈ es, NumOk e.1 ∧ NumOk e.2.1 ∧ NumOk e.2.2 ∧ e.2.1 < e.2.2
  up : riseL ltI (0 :: es.map (·.1)) = true
structure NmOk (n : L × List Int) : Prop where
  nm : isName n.1 = true
  ok : ∀ x ∈ n.2, NumOk x
  up : riseL ltI (0 :: n.2) = true
def RecOk : Rec → Prop
  | .pic caps ns es => caps ≠ [] ∧ (∀ x ∈ caps, NumOk x) ∧ (∀ n ∈ ns, NmOk n) ∧ riseL ltS (ns.map (·.1)) = true ∧ EsOk es
  | .put n is es => NmOk (n, is) ∧ EsOk es
  | .era n => isName n = true
  | .deal es => EsOk es
  | .cap s c es => NumOk s ∧ NumOk c ∧ EsOk es
/-! ### signs -/
/-! ### the pieces read -/
end Rk
end

section
set_option Elab.async false
set_option linter.all false
set_option maxRecDepth 100000
set_option maxHeartbeats 4000000
/-! What the laws on texts share: signs, names, alike. -/
namespace Rk
open PySem L2 Zk Zc Zj Zd
theorem isi_tt (a : List D) : isiD [.tup a, .ty "tuple"] = some (.bl true) := rfl
theorem isi_call {k : Int} : Zc.g_law_is_integer [.int k] = some (.v (.bl true)) := rfl
/-! ### alike -/
def atom (d : D) : Prop := (∃ a, d = dS a ∧ asc a = true) ∨ ∃ i, d = .int i
def plain : Nat → D → Prop
  | 0, d => atom d
  | n + 1, d => atom d ∨ ∃ ds, d = .tup ds ∧ ds.length ≤ 1000 ∧ ∀ x ∈ ds, plain n x
structure RecSm (r : Rec) : Prop where
  ok : RecOk r
  len : (textOf r).length ≤ 640
/-! ### names -/
end Rk
end

section
set_option Elab.async false
set_option linter.all false
set_option maxRecDepth 100000
set_option maxHeartbeats 4000000
/-! What the helpers are in the common files. -/
namespace Y
open PySem L2 Zk Zc
local macro_rules | `(tactic| walk_at "zs") => `(tactic| simp only [beq_self_eq_true, Bool.or_false, Bool.false_or, Bool.true_or, Bool.or_true, Bool.and_false, Bool.false_and, Bool.true_and, Bool.and_true, Zc.isi_ii, Zc.isi_ib, Zc.isi_tt, Zc.isi_ll, Zc.rowsT_len, Zc.rowsL_len, Zc.is_integer_call, Zc.ix_p0, Zc.ix_p1, dgTup2_a, dgTup3_a, Bool.not_true, Bool.not_false, mul_lz, List.flatten_cons, List.flatten_nil, Int.reduceToNat, add_ll, pow10_12, pow10_18, pow10_39, pow10_41, pow10_59, pow10_60, mkLst_some, mkTup_some, List.length_cons, List.length_nil, Nat.zero_le, Nat.reduceAdd, Nat.reduceLeDiff, call1, callO1, call2, callO2, call3, callO3, call4, callO4, call5, callO5, call6, callO6, ap1_some, ap2_some, apN_some, apC_some, d1_a, d2_a, dN_a, aNil_a, aCons_a, dC_a, dVar_z, dVar_s, tDt_a, apAnd_t, apAnd_f, apOr_t, apOr_f, dAndT_a, dOrT_a, apNot_some, dNotT_a, apAndV_t, apAndV_f, dAndV_a, apOrV_t, apOrV_f, dOrV_a, apIf_t, apIf_f, dIf_a, apCh_t, apCh_f, apChain_some, dChain_a, apSeq_nx, apSeq_rt, apSeq_ct, apSeq_bk, sSeq_a, apIfS_t, apIfS_f, sIf_a, sNext_a, sCont_a, sBreak_a, apRet_some, sRet_a, apRetO_some, sRetO_a, sRetN_a, getO_z, getO_s, apRetV_some, sRetV_a, ltB_z, ltB_s, okSlot_s, apAsg_some, sAsg_a, dName_ok, apG_some, dgCons_a, dgNil_a, apAsgO_some, sAsgO_a, sApp_a, sSetI_a, apFor_some, sFor_a, dItems_a, dRng1_a, dRng2_a, apEn_some, apEn_tup, dEnum_a, sFrz_a, frzs_nil, frzs_cons, frzI_o, frzI_v, frzI_n, frzI_s, frz1_s, frzAll_nil, frzAll_o, frzAll_v, frzAll_n, peekT_a, apPk_int, apPk_bl, apPk_str, apPk_non, peekF_a, dCall_a, toO_o, dCallO_a, dMake_a, Wd_v, Wd_o, dSl_a, apSl_some, oNone_a, oSome_a, apO_some, add_ii, sub_ii, lt_ii, le_ii, gt_ii, ge_ii, eq_ii, ne_ii, neg_i, not_b, bl_b, tru_b, tru_i, tru_l, tru_t, tru_n, len_l, len_t, len_scr, abs_i, int_i, list_l, list_t, tuple_l, tuple_t, min_ii, max_ii, rev_l, items_l, items_t, iL_len, run_a, outW_rt, outW_nx, List.map_cons, List.map_nil, List.replicate, List.append_nil, List.cons_append, List.nil_append, List.set_cons_zero, List.set_cons_succ, Option.map_some])
local macro_rules | `(tactic| walk_at "zd") => `(tactic| first | ((with_reducible show okSlot _ _ = true); simp only [okSlot_s, ltB_z, ltB_s]; done) | omega | assumption | decide | (simp only [List.length_map, List.length_append, List.length_cons, List.length_nil, List.length_range, List.length_set, List.length_reverse, iL_len, Zc.rowsT_len, Zc.rowsL_len] at *; omega))
local macro_rules | `(tactic| walk_at "zz") => `(tactic| simp (disch := walk_at "zd") only [dgTup2_a, dgTup3_a, Bool.not_true, Bool.not_false, mul_lz, List.flatten_cons, List.flatten_nil, Int.reduceToNat, add_ll, pow10_12, pow10_18, pow10_39, pow10_41, pow10_59, pow10_60, mkLst_some, mkTup_some, List.length_cons, List.length_nil, Nat.zero_le, Nat.reduceAdd, Nat.reduceLeDiff, call1, callO1, call2, callO2, call3, callO3, call4, callO4, call5, callO5, call6, callO6, ap1_some, ap2_some, apN_some, apC_some, d1_a, d2_a, dN_a, aNil_a, aCons_a, dC_a, dVar_z, dVar_s, tDt_a, apAnd_t, apAnd_f, apOr_t, apOr_f, dAndT_a, dOrT_a, apNot_some, dNotT_a, apAndV_t, apAndV_f, dAndV_a, apOrV_t, apOrV_f, dOrV_a, apIf_t, apIf_f, dIf_a, apCh_t, apCh_f, apChain_some, dChain_a, apSeq_nx, apSeq_rt, apSeq_ct, apSeq_bk, sSeq_a, apIfS_t, apIfS_f, sIf_a, sNext_a, sCont_a, sBreak_a, apRet_some, sRet_a, apRetO_some, sRetO_a, sRetN_a, getO_z, getO_s, apRetV_some, sRetV_a, ltB_z, ltB_s, okSlot_s, apAsg_some, sAsg_a, dName_ok, apG_some, dgCons_a, dgNil_a, apAsgO_some, sAsgO_a, sApp_a, sSetI_a, apFor_some, sFor_a, dItems_a, dRng1_a, dRng2_a, apEn_some, apEn_tup, dEnum_a, sFrz_a, frzs_nil, frzs_cons, frzI_o, frzI_v, frzI_n, frzI_s, frz1_s, frzAll_nil, frzAll_o, frzAll_v, frzAll_n, peekT_a, apPk_int, apPk_bl, apPk_str, apPk_non, peekF_a, dCall_a, toO_o, dCallO_a, dMake_a, Wd_v, Wd_o, dSl_a, apSl_some, oNone_a, oSome_a, apO_some, add_ii, sub_ii, lt_ii, le_ii, gt_ii, ge_ii, eq_ii, ne_ii, neg_i, not_b, bl_b, tru_b, tru_i, tru_l, tru_t, tru_n, len_l, len_t, len_scr, abs_i, int_i, list_l, list_t, tuple_l, tuple_t, min_ii, max_ii, rev_l, items_l, items_t, iL_len, run_a, outW_rt, outW_nx, List.map_cons, List.map_nil, List.replicate, List.append_nil, List.cons_append, List.nil_append, List.set_cons_zero, List.set_cons_succ, Option.map_some, Int.reduceAdd, Int.reduceMul, Int.reduceSub, Int.reduceNeg, beq_self_eq_true, Bool.or_false, Bool.false_or, Bool.true_or, Bool.or_true, Bool.and_false, Bool.false_and, Bool.true_and, Bool.and_true, Zc.isi_ii, Zc.isi_ib, Zc.isi_tt, Zc.isi_ll, Zc.rowsT_len, Zc.rowsL_len, Zc.is_integer_call, Zc.ix_p0, Zc.ix_p1, apR1_any, Int.toNat_natCast, apR2_some, mod_ii, fdiv_ii, mul_small, apApp_some, ix_at, ix_atT, ix_atI, ix_atIT, ix_atR, ix_atRT, List.length_map, List.length_append, List.length_range, List.length_set, Option.map_none, Option.map_map, decide_true, decide_false, peekO_a, apPkO_i, frz_wo, frz_wv, frz_kk, wipeG_nil, wipeG_cons, orB_s, orB_t, orB_f, andB_s, andB_t, andB_f, orV_s, orV_t, orV_f, andV_s, andV_t, andV_f, apOr_b, apAnd_b, apOrV_b, apAndV_b, apCh_b, Zc.cut_from, Zc.cut_to, in_l, in_t, in_pr, eq_op_op, eq_op_pr, eq_pr_op, eq_pr_pr, ne_op_op, ne_op_pr, ne_pr_op, ne_pr_pr, isnt_op, is_op, pr_0, pr_1, st_0, st_1, inP_pr, ninP_pr, nin_l, isi_prt, len_pr, op_some, prD_eq, ix_lit2, ix_lit3, ix_lit4, ix_lit5, ix_lit6, ix_lit7, ix_lit8, ix_lit9, ix_lit10, ix_lit11, ix_lit12, ix_lit13, ix_lit14, ix_lit15, setI_i, setI_p, setI_o, setI_n, snoc_i, snoc_r, snoc_p, snoc_n, snoc_o, snoc_pp, snoc_s, eq_ol, ne_ol, eq_pl, ne_pl, eq_sl, ne_sl, eq_il, ne_il, eq_rl, ne_rl, eq_il1, isi_bb, eq_bb, ne_bb, eq_self])
local macro_rules | `(tactic| walk_at "zf") => `(tactic| first | (walk_at "zz"; done) | (walk_at "zz"; rfl) | rfl)
local macro_rules | `(tactic| walk_at "lc") => `(tactic| ((case hf => rfl); (case hi => first | (walk_at "zz"; done) | (walk_at "zz"; rfl) | rfl); (case hl => walk_at "zd"); (case h => (intro a ha; refine ⟨_, dName_ok rfl, ?_, fun hT => ?_⟩ <;> walk_at "zz" <;> rfl))))
local macro_rules | `(tactic| walk_at "lm") => `(tactic| ((case hf => rfl); (case hi => first | (walk_at "zz"; done) | (walk_at "zz"; rfl) | rfl); (case hl => walk_at "zd"); (case h => (intro a ha; refine ⟨_, dName_ok rfl, ?_⟩; walk_at "zz"; rfl))))
theorem e_Pool_init (c : Cs) : g_Pool_init c = Zc.g_Pool_init ⟨c.Pool⟩ := rfl
theorem e_find_walk (c : Cs) : g_find_walk c = Zc.g_find_walk ⟨c.Pool⟩ := rfl
theorem e_take_walk : g_take_walk = Zc.g_take_walk := rfl
theorem e_law_draws : g_law_draws = Zc.g_law_draws := rfl
theorem e_law_pairs : g_law_pairs = Zc.g_law_pairs := rfl
theorem e_law_pool : g_law_pool = Zc.g_law_pool := rfl
theorem e_law_lots : g_law_lots = Zc.g_law_lots := rfl
theorem e_law_places : g_law_places = Zc.g_law_places := rfl
abbrev PD (c : Cs) (caps : List Int) (hs : List (List Int)) : D := Zc.poolD ⟨c.Pool⟩ caps hs
theorem fp_caps {c : Cs} {caps : List Int} {hs : List (List Int)} : fldD c.Pool "caps" (PD c caps hs) = some (.tup (iL caps)) := Zc.fld_caps (c := ⟨c.Pool⟩)
theorem fp_holders {c : Cs} {caps : List Int} {hs : List (List Int)} : fldD c.Pool "holders" (PD c caps hs) = some (.tup (rowsT hs)) := Zc.fld_holders (c := ⟨c.Pool⟩)
theorem fp_pieces {c : Cs} {caps : List Int} {hs : List (List Int)} : fldD c.Pool "pieces" (PD c caps hs) = some (.int (hs.length : Nat)) := Zc.fld_pieces (c := ⟨c.Pool⟩)
theorem srt_rows {n : Nat} : ∀ {hs : List (List Int)}, (∀ h ∈ hs, Asc n h) → hs.map srt = hs
  | [], _ => rfl
  | h :: hs, ha => by rw [List.map_cons, srt_asc (ha h List.mem_cons_self), srt_rows fun k hk => ha k (List.mem_cons_of_mem _ hk)]
theorem make_spec (c : Cs) {caps : List Int} {hs : List (List Int)} {m : Nat} (ok : PoolOk caps hs m) (hm : m ≤ 100) : apMake c.Pool 2 (g_Pool_init c) (some [.lst (iL caps), .lst (rowsL hs)]) = some (PD c caps hs) := by
  rw [e_Pool_init, apMake_some (show ([D.lst (iL caps), D.lst (rowsL hs)] : List D).length = 2 from rfl), Pool_init_spec ⟨c.Pool⟩ ok.s1 (by have := ok.s12; omega) (fun x hx => (ok.c0 x hx).1) (by have := ok.pm; omega) (fun h hh => Zc.Asc.hold (ok.asc h hh)), srt_rows ok.asc]
  rfl
theorem cell_any (ns : List Int) (k : Int) (h0 : 0 ≤ k) (h : ns.length ≤ 63) : ∃ c : Int, g_law_cell [.scr ns, .int k] = some (.v (.int c)) := by
  unfold g_law_cell t_law_cell
  walk_at "zz"
  by_cases hk : k < (ns.length : Nat)
  · rw [decide_eq_true hk]
    walk_at "zz"
    have e := ix_scr (at_get h0 hk)
    rw [show ((k.toNat : Nat) : Int) = k by omega] at e
    rw [e]
    exact ⟨_, rfl⟩
  · rw [decide_eq_false hk]
    walk_at "zz"
    exact ⟨_, rfl⟩
end Y
end

section
set_option Elab.async false
set_option linter.all false
set_option maxRecDepth 100000
set_option maxHeartbeats 4000000
/-! Worths; the law's order. -/
namespace Y
open PySem L2 Zk Zc Zsl
theorem isi_call {k : Int} : g_law_is_integer [.int k] = some (.v (.bl true)) := rfl
local macro_rules | `(tactic| walk_at "zs") => `(tactic| simp only [beq_self_eq_true, Bool.or_false, Bool.false_or, Bool.true_or, Bool.or_true, Bool.and_false, Bool.false_and, Bool.true_and, Bool.and_true, Zc.isi_ii, Zc.isi_ib, Zc.isi_tt, Zc.isi_ll, Zc.rowsT_len, Zc.rowsL_len, Zc.is_integer_call, Zc.ix_p0, Zc.ix_p1, dgTup2_a, dgTup3_a, Bool.not_true, Bool.not_false, mul_lz, List.flatten_cons, List.flatten_nil, Int.reduceToNat, add_ll, pow10_12, pow10_18, pow10_39, pow10_41, pow10_59, pow10_60, mkLst_some, mkTup_some, List.length_cons, List.length_nil, Nat.zero_le, Nat.reduceAdd, Nat.reduceLeDiff, call1, callO1, call2, callO2, call3, callO3, call4, callO4, call5, callO5, call6, callO6, ap1_some, ap2_some, apN_some, apC_some, d1_a, d2_a, dN_a, aNil_a, aCons_a, dC_a, dVar_z, dVar_s, tDt_a, apAnd_t, apAnd_f, apOr_t, apOr_f, dAndT_a, dOrT_a, apNot_some, dNotT_a, apAndV_t, apAndV_f, dAndV_a, apOrV_t, apOrV_f, dOrV_a, apIf_t, apIf_f, dIf_a, apCh_t, apCh_f, apChain_some, dChain_a, apSeq_nx, apSeq_rt, apSeq_ct, apSeq_bk, sSeq_a, apIfS_t, apIfS_f, sIf_a, sNext_a, sCont_a, sBreak_a, apRet_some, sRet_a, apRetO_some, sRetO_a, sRetN_a, getO_z, getO_s, apRetV_some, sRetV_a, ltB_z, ltB_s, okSlot_s, apAsg_some, sAsg_a, dName_ok, apG_some, dgCons_a, dgNil_a, apAsgO_some, sAsgO_a, sApp_a, sSetI_a, apFor_some, sFor_a, dItems_a, dRng1_a, dRng2_a, apEn_some, apEn_tup, dEnum_a, sFrz_a, frzs_nil, frzs_cons, frzI_o, frzI_v, frzI_n, frzI_s, frz1_s, frzAll_nil, frzAll_o, frzAll_v, frzAll_n, peekT_a, apPk_int, apPk_bl, apPk_str, apPk_non, peekF_a, dCall_a, toO_o, dCallO_a, dMake_a, Wd_v, Wd_o, dSl_a, apSl_some, oNone_a, oSome_a, apO_some, add_ii, sub_ii, lt_ii, le_ii, gt_ii, ge_ii, eq_ii, ne_ii, neg_i, not_b, bl_b, tru_b, tru_i, tru_l, tru_t, tru_n, len_l, len_t, len_scr, abs_i, int_i, list_l, list_t, tuple_l, tuple_t, min_ii, max_ii, rev_l, items_l, items_t, iL_len, run_a, outW_rt, outW_nx, List.map_cons, List.map_nil, List.replicate, List.append_nil, List.cons_append, List.nil_append, List.set_cons_zero, List.set_cons_succ, Option.map_some])
local macro_rules | `(tactic| walk_at "zd") => `(tactic| first | ((with_reducible show okSlot _ _ = true); simp only [okSlot_s, ltB_z, ltB_s]; done) | omega | assumption | decide | (simp only [List.length_map, List.length_append, List.length_cons, List.length_nil, List.length_range, List.length_set, List.length_reverse, iL_len, Zc.rowsT_len, Zc.rowsL_len] at *; omega))
local macro_rules | `(tactic| walk_at "zz") => `(tactic| simp (disch := walk_at "zd") only [dgTup2_a, dgTup3_a, Bool.not_true, Bool.not_false, mul_lz, List.flatten_cons, List.flatten_nil, Int.reduceToNat, add_ll, pow10_12, pow10_18, pow10_39, pow10_41, pow10_59, pow10_60, mkLst_some, mkTup_some, List.length_cons, List.length_nil, Nat.zero_le, Nat.reduceAdd, Nat.reduceLeDiff, call1, callO1, call2, callO2, call3, callO3, call4, callO4, call5, callO5, call6, callO6, ap1_some, ap2_some, apN_some, apC_some, d1_a, d2_a, dN_a, aNil_a, aCons_a, dC_a, dVar_z, dVar_s, tDt_a, apAnd_t, apAnd_f, apOr_t, apOr_f, dAndT_a, dOrT_a, apNot_some, dNotT_a, apAndV_t, apAndV_f, dAndV_a, apOrV_t, apOrV_f, dOrV_a, apIf_t, apIf_f, dIf_a, apCh_t, apCh_f, apChain_some, dChain_a, apSeq_nx, apSeq_rt, apSeq_ct, apSeq_bk, sSeq_a, apIfS_t, apIfS_f, sIf_a, sNext_a, sCont_a, sBreak_a, apRet_some, sRet_a, apRetO_some, sRetO_a, sRetN_a, getO_z, getO_s, apRetV_some, sRetV_a, ltB_z, ltB_s, okSlot_s, apAsg_some, sAsg_a, dName_ok, apG_some, dgCons_a, dgNil_a, apAsgO_some, sAsgO_a, sApp_a, sSetI_a, apFor_some, sFor_a, dItems_a, dRng1_a, dRng2_a, apEn_some, apEn_tup, dEnum_a, sFrz_a, frzs_nil, frzs_cons, frzI_o, frzI_v, frzI_n, frzI_s, frz1_s, frzAll_nil, frzAll_o, frzAll_v, frzAll_n, peekT_a, apPk_int, apPk_bl, apPk_str, apPk_non, peekF_a, dCall_a, toO_o, dCallO_a, dMake_a, Wd_v, Wd_o, dSl_a, apSl_some, oNone_a, oSome_a, apO_some, add_ii, sub_ii, lt_ii, le_ii, gt_ii, ge_ii, eq_ii, ne_ii, neg_i, not_b, bl_b, tru_b, tru_i, tru_l, tru_t, tru_n, len_l, len_t, len_scr, abs_i, int_i, list_l, list_t, tuple_l, tuple_t, min_ii, max_ii, rev_l, items_l, items_t, iL_len, run_a, outW_rt, outW_nx, List.map_cons, List.map_nil, List.replicate, List.append_nil, List.cons_append, List.nil_append, List.set_cons_zero, List.set_cons_succ, Option.map_some, Int.reduceAdd, Int.reduceMul, Int.reduceSub, Int.reduceNeg, beq_self_eq_true, Bool.or_false, Bool.false_or, Bool.true_or, Bool.or_true, Bool.and_false, Bool.false_and, Bool.true_and, Bool.and_true, Zc.isi_ii, Zc.isi_ib, Zc.isi_tt, Zc.isi_ll, Zc.rowsT_len, Zc.rowsL_len, Zc.is_integer_call, Zc.ix_p0, Zc.ix_p1, apR1_any, Int.toNat_natCast, apR2_some, mod_ii, fdiv_ii, mul_small, apApp_some, ix_at, ix_atT, ix_atI, ix_atIT, ix_atR, ix_atRT, List.length_map, List.length_append, List.length_range, List.length_set, Option.map_none, Option.map_map, decide_true, decide_false, peekO_a, apPkO_i, frz_wo, frz_wv, frz_kk, wipeG_nil, wipeG_cons, orB_s, orB_t, orB_f, andB_s, andB_t, andB_f, orV_s, orV_t, orV_f, andV_s, andV_t, andV_f, apOr_b, apAnd_b, apOrV_b, apAndV_b, apCh_b, Zc.cut_from, Zc.cut_to, in_l, in_t, in_pr, eq_op_op, eq_op_pr, eq_pr_op, eq_pr_pr, ne_op_op, ne_op_pr, ne_pr_op, ne_pr_pr, isnt_op, is_op, pr_0, pr_1, st_0, st_1, inP_pr, ninP_pr, nin_l, isi_prt, len_pr, op_some, prD_eq, ix_lit2, ix_lit3, ix_lit4, ix_lit5, ix_lit6, ix_lit7, ix_lit8, ix_lit9, ix_lit10, ix_lit11, ix_lit12, ix_lit13, ix_lit14, ix_lit15, setI_i, setI_p, setI_o, setI_n, snoc_i, snoc_r, snoc_p, snoc_n, snoc_o, snoc_pp, snoc_s, eq_ol, ne_ol, eq_pl, ne_pl, eq_sl, ne_sl, eq_il, ne_il, eq_rl, ne_rl, eq_il1, isi_bb, eq_bb, ne_bb, eq_self, isi_call, Int.reduceBEq, Bool.not_true, Bool.not_false])
local macro_rules | `(tactic| walk_at "zf") => `(tactic| first | (walk_at "zz"; done) | (walk_at "zz"; rfl) | rfl)
local macro_rules | `(tactic| walk_at "lc") => `(tactic| ((case hf => rfl); (case hi => first | (walk_at "zz"; done) | (walk_at "zz"; rfl) | rfl); (case hl => walk_at "zd"); (case h => (intro a ha; refine ⟨_, dName_ok rfl, ?_, fun hT => ?_⟩ <;> walk_at "zz" <;> rfl))))
local macro_rules | `(tactic| walk_at "lm") => `(tactic| ((case hf => rfl); (case hi => first | (walk_at "zz"; done) | (walk_at "zz"; rfl) | rfl); (case hl => walk_at "zd"); (case h => (intro a ha; refine ⟨_, dName_ok rfl, ?_⟩; walk_at "zz"; rfl))))
theorem worths_spec {ns : List Int} (k : Int) (h0 : 0 ≤ k) (hn : ns.length ≤ 63) (n : Nat) (h17 : n ≤ 17) : ∃ ws, g_law_worths [.scr ns, .int k, .int (n : Int)] = some (.o (.lst (iL ws))) ∧ ws.length = n ∧ ∀ x ∈ ws, 0 ≤ x ∧ x ≤ 10 ^ 39 := by
  obtain ⟨c0, ec0⟩ := cell_any ns k h0 hn
  obtain ⟨c1, ec1⟩ := cell_any ns (k + 1) (by omega) hn
  obtain ⟨w, e, ds, rfl, hb⟩ := Zc.draws_spec c0 (List.replicate 17 10) (by intro s hs; rw [List.eq_of_mem_replicate hs]; omega) (by simp)
  have hdl : ds.length = 17 := by rw [hb.len]; rfl
  unfold g_law_worths t_law_worths
  walk_at "zz"
  rw [ec0]
  walk_at "zz"
  replace e : Zc.g_law_draws [.int c0, .lst [.int 10, .int 10, .int 10, .int 10, .int 10, .int 10, .int 10, .int 10, .int 10, .int 10, .int 10, .int 10, .int 10, .int 10, .int 10, .int 10, .int 10]] = some (.o (.lst (iL ds))) := e
  rw [e_law_draws, e]
  walk_at "zz"
  rw [ec1]
  walk_at "zz"
  obtain ⟨x, hx, x0, x1⟩ : ∃ x : Int, (if c1 < 0 then -c1 else c1) % 10 ^ 39 = x ∧ 0 ≤ x ∧ x < 10 ^ 39 := ⟨_, rfl, Int.emod_nonneg _ (by decide), Int.emod_lt_of_pos _ (by decide)⟩
  rw [hx]
  have hm : ∀ y ∈ [0, 0, 1, 1, 2, 9, x, x, x + 1, 10 ^ 39], (0 : Int) ≤ y ∧ y ≤ 10 ^ 39 := fun y hy => by
    simp only [List.mem_cons, List.not_mem_nil, or_false] at hy
    omega
  have hd : ∀ i : Nat, i < n → 0 ≤ at_ ds (i : Int) ∧ at_ ds (i : Int) < 10 := fun i hi => hb.at 10 (by omega) (by rw [Int.toNat_natCast, List.getElem?_replicate, if_pos (by omega)])
  rewrite [dLc_rngM (n := n) (F := fun i => D.int (at_ [0, 0, 1, 1, 2, 9, x, x, x + 1, 10 ^ 39] (at_ ds (i : Int))))]
  case hf => rfl
  case hi => walk_at "zz"
  case hl => omega
  case h =>
    intro i hi
    have := hd i hi
    refine ⟨_, dName_ok rfl, ?_⟩
    walk_at "zz"
    exact ix_atI (xs := [0, 0, 1, 1, 2, 9, x, x, x + 1, 10 ^ 39]) this.1 this.2
  rw [map_int]
  refine ⟨_, rfl, by rw [List.length_map, List.length_range], fun y hy => ?_⟩
  obtain ⟨i, hi, rfl⟩ := List.mem_map.mp hy
  have := hd i (List.mem_range.mp hi)
  exact hm _ (at_mem this.1 this.2)
theorem lr_n (n : Nat) (h : n ≤ 100000) : lrD (.int (n : Int)) = some (.lst (iL (allI n))) := by
  rw [lr_i (by omega), Int.toNat_natCast, rng_iL]
  rfl
theorem allI_mem {n : Nat} {x : Int} : x ∈ allI n ↔ 0 ≤ x ∧ x < (n : Int) := by
  unfold allI
  rw [List.mem_map]
  constructor
  · rintro ⟨i, hi, rfl⟩
    have := List.mem_range.mp hi
    omega
  · rintro ⟨h0, h1⟩
    exact ⟨x.toNat, List.mem_range.mpr (by omega), by omega⟩
theorem allI_asc (n : Nat) : (allI n).Pairwise (· < ·) := by
  unfold allI
  exact List.pairwise_map.mpr (List.pairwise_lt_range.imp fun h => by omega)
theorem pw_at {L : List Int} (h : L.Pairwise (· < ·)) {i j : Nat} {x y : Int} (hi : L[i]? = some x) (hj : L[j]? = some y) (hij : i < j) : x < y := by
  obtain ⟨a, rfl⟩ := List.getElem?_eq_some_iff.mp hi
  obtain ⟨b, rfl⟩ := List.getElem?_eq_some_iff.mp hj
  exact List.pairwise_iff_getElem.mp h i j a b hij
theorem order_spec {ws : List Int} (h100 : ws.length ≤ 100) : ∃ R, g_law_order [.lst (iL ws)] = some (.o (.lst (iL R))) ∧ Zu.Row ws R ws.length := by
  unfold g_law_order t_law_order
  walk_at "zz"
  rw [lr_n _ (by omega)]
  walk_at "zz"
  refine rng_then (C := fun o => ∃ R, outW o = some (.o (.lst (iL R))) ∧ Zu.Row ws R ws.length) (fun t g => ∃ (L R : List Int) (k3 k4 k5 : Option D), g = [some (.v (.lst (iL ws))), some (.v (.lst (iL L))), some (.o (.lst (iL R))), k3.map Wd.v, k4.map Wd.v, k5.map Wd.v] ∧ Zu.Row ws R t ∧ L.Pairwise (· < ·) ∧ ∀ x, x ∈ L ↔ (0 ≤ x ∧ x < (ws.length : Int)) ∧ x ∉ R) ⟨allI ws.length, [], none, none, none, rfl, ⟨rfl, List.Pairwise.nil, fun x h => (by cases h), List.Pairwise.nil, fun x h => by cases h⟩, allI_asc _, fun x => by rw [allI_mem]; simp⟩ ?_ ?_ ?_
  · rintro t g ⟨L, R, k3, k4, k5, rfl, _⟩
    rfl
  · rintro t g ht ⟨L, R, k3, k4, k5, rfl, hR, hp, hm⟩
    have hRl := hR.len
    have hLl : L.length ≤ 100 := by
      have hn : L.Nodup := hp.imp fun h => Int.ne_of_lt h
      have := hn.length_le_of_subset (l₂ := intsTo (ws.length : Int)) fun x hx => Zu.ints_mem.mpr ((hm x).mp hx).1
      rw [intsTo_len] at this
      omega
    have hL0 : 0 < L.length := by
      rcases Nat.eq_zero_or_pos L.length with z | z
      · exfalso
        have := (Zu.ints_nodup (ws.length : Int)).length_le_of_subset (l₂ := R) fun x hx => by
          by_cases q : x ∈ R
          · exact q
          · have := (hm x).mpr ⟨Zu.ints_mem.mp hx, q⟩
            rw [List.eq_nil_of_length_eq_zero z] at this
            cases this
        rw [intsTo_len, hRl] at this
        omega
      · exact z
    have hin : ∀ x ∈ L, 0 ≤ x ∧ x < (ws.length : Int) := fun x hx => ((hm x).mp hx).1
    have e0 : L[0]? = some (at_ L 0) := at_get (k := 0) (by omega) (by omega)
    show StepTo (sSeq _ _ [some (.v (.lst (iL ws))), some (.v (.lst (iL L))), some (.o (.lst (iL R))), some (.v (.int (t : Int))), k4.map Wd.v, k5.map Wd.v]) _
    walk_at "zz"
    refine loop_each (C := fun o => StepTo o _) D.int L (fun i g => ∃ (b : Int) (jb : Nat) (k5 : Option D), g = [some (.v (.lst (iL ws))), some (.v (.lst (iL L))), some (.o (.lst (iL R))), some (.v (.int (t : Int))), some (.v (.int b)), k5.map Wd.v] ∧ L[jb]? = some b ∧ (jb < i ∨ jb = 0) ∧ ∀ (j : Nat) (y : Int), j < i → L[j]? = some y → y ≠ b → Zu.lt ws b y) ⟨at_ L 0, 0, k5, rfl, e0, .inr rfl, fun j y h => by omega⟩ ?_ ?_
    · rintro i p g hi ⟨b, jb, k5, rfl, hb, hj, hB⟩
      have hpL := hin p (List.mem_of_getElem? hi)
      have hbL := hin b (List.mem_of_getElem? hb)
      refine ⟨_, dName_ok rfl, ?_⟩
      show StepTo (sIf _ _ _ [some (.v (.lst (iL ws))), some (.v (.lst (iL L))), some (.o (.lst (iL R))), some (.v (.int (t : Int))), some (.v (.int b)), some (.v (.int p))]) _
      walk_at "zz"
      by_cases hg : at_ ws b < at_ ws p
      · rw [show decide (at_ ws b < at_ ws p) = true from decide_eq_true hg]
        walk_at "zz"
        refine step_nx ⟨p, i, some (.int p), rfl, hi, .inl (by omega), fun j y hj' hy hne => ?_⟩
        rcases Nat.lt_or_ge j i with z | z
        · by_cases e : y = b
          · rw [e]; exact .inl hg
          · have := hB j y z hy e
            unfold Zu.lt at *
            omega
        · rw [show j = i by omega, hi] at hy
          exact absurd (Option.some.inj hy).symm hne
      · rw [show decide (at_ ws b < at_ ws p) = false from decide_eq_false hg]
        walk_at "zz"
        refine step_nx ⟨b, jb, some (.int p), rfl, hb, by omega, fun j y hj' hy hne => ?_⟩
        rcases Nat.lt_or_ge j i with z | z
        · exact hB j y z hy hne
        · rw [show j = i by omega, hi] at hy
          cases hy
          have hlt : b < p := by
            rcases Nat.lt_or_ge jb i with q | q
            · exact pw_at hp hb hi q
            · exfalso
              rw [show jb = i by omega, hi] at hb
              exact hne (Option.some.inj hb)
          unfold Zu.lt
          omega
    · rintro g ⟨b, jb, k5, rfl, hb, hj, hB⟩
      have hbm := List.mem_of_getElem? hb
      have hbL := (hm b).mp hbm
      have hiL : (iL R).length < 100000 := by rw [iL_len]; omega
      walk_at "zz"
      rewrite [dLc_filt D.int (xs := L) (T := fun x => decide (x ≠ b)) (F := D.int)]
      case hf => cases k5 <;> rfl
      case hi => walk_at "zz"; rfl
      case hl => omega
      case h =>
        intro x hx
        refine ⟨_, dName_ok rfl, ?_, fun _ => ?_⟩
        · walk_at "zz"
          rw [Bool.eq_iff_iff.mpr (by simp : (!x == b) = true ↔ decide (x ≠ b) = true)]
        · walk_at "zz"
      rw [fold_iL]
      walk_at "zz"
      refine step_nx ⟨L.filter fun x => decide (x ≠ b), R ++ [b], some (.int (t : Int)), some (.int b), k5, by rw [show iL (R ++ [b]) = iL R ++ [D.int b] from by unfold iL; rw [List.map_append]; rfl]; rfl, hR.add hbL.1.1 hbL.1.2 hbL.2 fun y y0 y1 hy hne => ?_, hp.sublist List.filter_sublist, fun x => ?_⟩
      · obtain ⟨j, hj⟩ := List.mem_iff_getElem?.mp ((hm y).mpr ⟨⟨y0, y1⟩, hy⟩)
        exact hB j y (List.getElem?_eq_some_iff.mp hj).1 hj hne
      · rw [List.mem_filter, hm x, decide_eq_true_eq, List.mem_append, List.mem_singleton]
        constructor
        · rintro ⟨⟨h1, h2⟩, h3⟩; exact ⟨h1, fun z => z.elim h2 h3⟩
        · rintro ⟨h1, h2⟩; exact ⟨⟨h1, fun z => h2 (.inl z)⟩, fun z => h2 (.inr z)⟩
  · rintro g ⟨L, R, k3, k4, k5, rfl, hR, hp, hm⟩
    walk_at "zz"
    exact ⟨R, rfl, hR⟩
end Y
end

section
set_option Elab.async false
set_option linter.all false
set_option maxRecDepth 100000
set_option maxHeartbeats 4000000
/-! The best lot, as the program finds it. -/
namespace Y
open PySem L2 Zk Zc Zsl
local macro_rules | `(tactic| walk_at "zs") => `(tactic| simp only [beq_self_eq_true, Bool.or_false, Bool.false_or, Bool.true_or, Bool.or_true, Bool.and_false, Bool.false_and, Bool.true_and, Bool.and_true, Zc.isi_ii, Zc.isi_ib, Zc.isi_tt, Zc.isi_ll, Zc.rowsT_len, Zc.rowsL_len, Zc.is_integer_call, Zc.ix_p0, Zc.ix_p1, dgTup2_a, dgTup3_a, Bool.not_true, Bool.not_false, mul_lz, List.flatten_cons, List.flatten_nil, Int.reduceToNat, add_ll, pow10_12, pow10_18, pow10_39, pow10_41, pow10_59, pow10_60, mkLst_some, mkTup_some, List.length_cons, List.length_nil, Nat.zero_le, Nat.reduceAdd, Nat.reduceLeDiff, call1, callO1, call2, callO2, call3, callO3, call4, callO4, call5, callO5, call6, callO6, ap1_some, ap2_some, apN_some, apC_some, d1_a, d2_a, dN_a, aNil_a, aCons_a, dC_a, dVar_z, dVar_s, tDt_a, apAnd_t, apAnd_f, apOr_t, apOr_f, dAndT_a, dOrT_a, apNot_some, dNotT_a, apAndV_t, apAndV_f, dAndV_a, apOrV_t, apOrV_f, dOrV_a, apIf_t, apIf_f, dIf_a, apCh_t, apCh_f, apChain_some, dChain_a, apSeq_nx, apSeq_rt, apSeq_ct, apSeq_bk, sSeq_a, apIfS_t, apIfS_f, sIf_a, sNext_a, sCont_a, sBreak_a, apRet_some, sRet_a, apRetO_some, sRetO_a, sRetN_a, getO_z, getO_s, apRetV_some, sRetV_a, ltB_z, ltB_s, okSlot_s, apAsg_some, sAsg_a, dName_ok, apG_some, dgCons_a, dgNil_a, apAsgO_some, sAsgO_a, sApp_a, sSetI_a, apFor_some, sFor_a, dItems_a, dRng1_a, dRng2_a, apEn_some, apEn_tup, dEnum_a, sFrz_a, frzs_nil, frzs_cons, frzI_o, frzI_v, frzI_n, frzI_s, frz1_s, frzAll_nil, frzAll_o, frzAll_v, frzAll_n, peekT_a, apPk_int, apPk_bl, apPk_str, apPk_non, peekF_a, dCall_a, toO_o, dCallO_a, dMake_a, Wd_v, Wd_o, dSl_a, apSl_some, oNone_a, oSome_a, apO_some, add_ii, sub_ii, lt_ii, le_ii, gt_ii, ge_ii, eq_ii, ne_ii, neg_i, not_b, bl_b, tru_b, tru_i, tru_l, tru_t, tru_n, len_l, len_t, len_scr, abs_i, int_i, list_l, list_t, tuple_l, tuple_t, min_ii, max_ii, rev_l, items_l, items_t, iL_len, run_a, outW_rt, outW_nx, List.map_cons, List.map_nil, List.replicate, List.append_nil, List.cons_append, List.nil_append, List.set_cons_zero, List.set_cons_succ, Option.map_some])
local macro_rules | `(tactic| walk_at "zd") => `(tactic| first | ((with_reducible show okSlot _ _ = true); simp only [okSlot_s, ltB_z, ltB_s]; done) | omega | assumption | decide | (simp only [List.length_map, List.length_append, List.length_cons, List.length_nil, List.length_range, List.length_set, List.length_reverse, iL_len, Zc.rowsT_len, Zc.rowsL_len] at *; omega))
local macro_rules | `(tactic| walk_at "zz") => `(tactic| simp (disch := walk_at "zd") only [dgTup2_a, dgTup3_a, Bool.not_true, Bool.not_false, mul_lz, List.flatten_cons, List.flatten_nil, Int.reduceToNat, add_ll, pow10_12, pow10_18, pow10_39, pow10_41, pow10_59, pow10_60, mkLst_some, mkTup_some, List.length_cons, List.length_nil, Nat.zero_le, Nat.reduceAdd, Nat.reduceLeDiff, call1, callO1, call2, callO2, call3, callO3, call4, callO4, call5, callO5, call6, callO6, ap1_some, ap2_some, apN_some, apC_some, d1_a, d2_a, dN_a, aNil_a, aCons_a, dC_a, dVar_z, dVar_s, tDt_a, apAnd_t, apAnd_f, apOr_t, apOr_f, dAndT_a, dOrT_a, apNot_some, dNotT_a, apAndV_t, apAndV_f, dAndV_a, apOrV_t, apOrV_f, dOrV_a, apIf_t, apIf_f, dIf_a, apCh_t, apCh_f, apChain_some, dChain_a, apSeq_nx, apSeq_rt, apSeq_ct, apSeq_bk, sSeq_a, apIfS_t, apIfS_f, sIf_a, sNext_a, sCont_a, sBreak_a, apRet_some, sRet_a, apRetO_some, sRetO_a, sRetN_a, getO_z, getO_s, apRetV_some, sRetV_a, ltB_z, ltB_s, okSlot_s, apAsg_some, sAsg_a, dName_ok, apG_some, dgCons_a, dgNil_a, apAsgO_some, sAsgO_a, sApp_a, sSetI_a, apFor_some, sFor_a, dItems_a, dRng1_a, dRng2_a, apEn_some, apEn_tup, dEnum_a, sFrz_a, frzs_nil, frzs_cons, frzI_o, frzI_v, frzI_n, frzI_s, frz1_s, frzAll_nil, frzAll_o, frzAll_v, frzAll_n, peekT_a, apPk_int, apPk_bl, apPk_str, apPk_non, peekF_a, dCall_a, toO_o, dCallO_a, dMake_a, Wd_v, Wd_o, dSl_a, apSl_some, oNone_a, oSome_a, apO_some, add_ii, sub_ii, lt_ii, le_ii, gt_ii, ge_ii, eq_ii, ne_ii, neg_i, not_b, bl_b, tru_b, tru_i, tru_l, tru_t, tru_n, len_l, len_t, len_scr, abs_i, int_i, list_l, list_t, tuple_l, tuple_t, min_ii, max_ii, rev_l, items_l, items_t, iL_len, run_a, outW_rt, outW_nx, List.map_cons, List.map_nil, List.replicate, List.append_nil, List.cons_append, List.nil_append, List.set_cons_zero, List.set_cons_succ, Option.map_some, Int.reduceAdd, Int.reduceMul, Int.reduceSub, Int.reduceNeg, beq_self_eq_true, Bool.or_false, Bool.false_or, Bool.true_or, Bool.or_true, Bool.and_false, Bool.false_and, Bool.true_and, Bool.and_true, Zc.isi_ii, Zc.isi_ib, Zc.isi_tt, Zc.isi_ll, Zc.rowsT_len, Zc.rowsL_len, Zc.is_integer_call, Zc.ix_p0, Zc.ix_p1, apR1_any, Int.toNat_natCast, apR2_some, mod_ii, fdiv_ii, mul_small, apApp_some, ix_at, ix_atT, ix_atI, ix_atIT, ix_atR, ix_atRT, List.length_map, List.length_append, List.length_range, List.length_set, Option.map_none, Option.map_map, decide_true, decide_false, peekO_a, apPkO_i, frz_wo, frz_wv, frz_kk, wipeG_nil, wipeG_cons, orB_s, orB_t, orB_f, andB_s, andB_t, andB_f, orV_s, orV_t, orV_f, andV_s, andV_t, andV_f, apOr_b, apAnd_b, apOrV_b, apAndV_b, apCh_b, Zc.cut_from, Zc.cut_to, in_l, in_t, in_pr, eq_op_op, eq_op_pr, eq_pr_op, eq_pr_pr, ne_op_op, ne_op_pr, ne_pr_op, ne_pr_pr, isnt_op, is_op, pr_0, pr_1, st_0, st_1, inP_pr, ninP_pr, nin_l, isi_prt, len_pr, op_some, prD_eq, ix_lit2, ix_lit3, ix_lit4, ix_lit5, ix_lit6, ix_lit7, ix_lit8, ix_lit9, ix_lit10, ix_lit11, ix_lit12, ix_lit13, ix_lit14, ix_lit15, setI_i, setI_p, setI_o, setI_n, snoc_i, snoc_r, snoc_p, snoc_n, snoc_o, snoc_pp, snoc_s, eq_ol, ne_ol, eq_pl, ne_pl, eq_sl, ne_sl, eq_il, ne_il, eq_rl, ne_rl, eq_il1, isi_bb, eq_bb, ne_bb, eq_self, isi_call, Int.reduceBEq, Bool.not_true, Bool.not_false, Zst2.sOf, Zst2.noSti, List.all_cons, List.all_nil, if_true, snoc_s2])
local macro_rules | `(tactic| walk_at "zf") => `(tactic| first | (walk_at "zz"; done) | (walk_at "zz"; rfl) | rfl)
local macro_rules | `(tactic| walk_at "lc") => `(tactic| ((case hf => rfl); (case hi => first | (walk_at "zz"; done) | (walk_at "zz"; rfl) | rfl); (case hl => walk_at "zd"); (case h => (intro a ha; refine ⟨_, dName_ok rfl, ?_, fun hT => ?_⟩ <;> walk_at "zz" <;> rfl))))
local macro_rules | `(tactic| walk_at "lm") => `(tactic| ((case hf => rfl); (case hi => first | (walk_at "zz"; done) | (walk_at "zz"; rfl) | rfl); (case hl => walk_at "zd"); (case h => (intro a ha; refine ⟨_, dName_ok rfl, ?_⟩; walk_at "zz"; rfl))))
variable {caps : List Int} {hs : List (List Int)} {m : Nat}
abbrev keyB : DF := dN mkTup (aCons (d1 negD (d2 ixD (dVar 1) (dVar 5))) (aCons (dVar 5) aNil))
theorem key_spec {P d : D} {ws : List Int} {i : Int} (h0 : 0 ≤ i) (h1 : i < (ws.length : Int)) : Zst2.keyAt 5 keyB [some (.v P), some (.v (.lst (iL ws))), some (.v d), none, none, none, none] i = some (.tup [.int (-(at_ ws i)), .int i]) := by
  show keyB [some (.v P), some (.v (.lst (iL ws))), some (.v d), none, none, some (.v (.int i)), none] = _
  unfold keyB
  walk_at "zz"
theorem sort_spec (c : Cs) {ws R : List Int} {d : D} (h100 : ws.length ≤ 100) (hl : ws.length = hs.length) (hR : Zu.Row ws R ws.length) :
    Zst2.dSortK 5 (d1 (fldD c.Pool "pieces") (dVar 0)) keyB [some (.v (PD c caps hs)), some (.v (.lst (iL ws))), some (.v d), none, none, none, none] = some (.lst (iL R)) := by
  have hk : ∀ i ∈ intsTo (ws.length : Int), Zst2.keyAt 5 keyB [some (.v (PD c caps hs)), some (.v (.lst (iL ws))), some (.v d), none, none, none, none] i = some (.tup [.int (-(at_ ws i)), .int i]) := fun i hi => key_spec (Zu.ints_mem.mp hi).1 (Zu.ints_mem.mp hi).2
  unfold Zst2.dSortK
  rw [show d1 (fldD c.Pool "pieces") (dVar 0) [some (.v (PD c caps hs)), some (.v (.lst (iL ws))), some (.v d), none, none, none, none] = some (.int (hs.length : Nat)) from fp_pieces, ← hl]
  simp only [Option.bind_some]
  rw [if_pos, Zu.row_sort (fun i hi => by rw [hk i hi]; rfl) hR]
  · rfl
  · rw [Bool.and_eq_true, Bool.and_eq_true, Bool.and_eq_true, decide_eq_true_eq, decide_eq_true_eq, List.all_eq_true]
    exact ⟨⟨⟨by omega, by omega⟩, rfl⟩, fun i hi => by rw [hk i hi]; rfl⟩
theorem opD_range {dl : List (Option Pr)} : dl.map opD = (List.range dl.length).map fun j => opD (at_ dl ((j : Nat) : Int)) := by
  apply List.ext_getElem?
  intro j
  rw [List.getElem?_map, List.getElem?_map]
  by_cases h : j < dl.length
  · rw [Zc.at_of h, List.getElem?_range h]; rfl
  · rw [List.getElem?_eq_none (by omega), List.getElem?_eq_none (by rw [List.length_range]; omega)]; rfl
theorem none_mul (n : Nat) : (List.replicate n [D.non]).flatten = (List.replicate n (none : Option Pr)).map opD := by
  rw [List.map_replicate, List.flatten_replicate_singleton]
  rfl
/-- the lot that is taken greedily -/
noncomputable def lotG (caps : List Int) (hs : List (List Int)) (R : List Int) : List Int := pickI hs.length (Zu.greedy (Zu.IndP caps hs) R)
theorem best_lot_spec (c : Cs) (ok : PoolOk caps hs m) (hm : m ≤ 60) {ws R : List Int} (hl : ws.length = hs.length) (hR : Zu.Row ws R ws.length) : g_best_lot c [PD c caps hs, .lst (iL ws)] = some (.o (.lst (iL (lotG caps hs R)))) := by
  have hpm := ok.pm
  have hRl := hR.len
  unfold g_best_lot t_best_lot
  walk_at "zz"
  rw [fp_pieces]
  walk_at "zz"
  have eI : Zst2.dItemsT (Zst2.dSortK 5 (d1 (fldD c.Pool "pieces") (dVar 0)) keyB) [some (.v (PD c caps hs)), some (.v (.lst (iL ws))), some (.v (.lst (List.replicate hs.length [D.non]).flatten)), none, none, none, none] = some (iL R) := by
    unfold Zst2.dItemsT
    rw [sort_spec c (by omega) hl hR]
  rw [eI, none_mul]
  walk_at "zz"
  refine loop_each (C := fun o => outW o = _) D.int R (fun i g => ∃ (dl : List (Option Pr)) (k3 k4 : Option D), g = [some (.v (PD c caps hs)), some (.v (.lst (iL ws))), some (.v (.lst (dl.map opD))), k3.map Wd.v, k4.map Wd.v, none, none] ∧ Zu.DealsT caps hs ((R.take i).foldl (Zu.gstep (Zu.IndP caps hs)) fun _ => false) dl) ⟨_, none, none, rfl, Zu.deals_nil⟩ ?_ ?_
  · rintro i p g hi ⟨dl, k3, k4, rfl, d⟩
    have hp := hR.mem p (List.mem_of_getElem? hi)
    have hdl := d.dk.len
    obtain ⟨n, rfl⟩ : ∃ n : Nat, p = (n : Int) := ⟨p.toNat, by omega⟩
    have hT : ((R.take i).foldl (Zu.gstep (Zu.IndP caps hs)) fun _ => false) n = false := by
      cases e : ((R.take i).foldl (Zu.gstep (Zu.IndP caps hs)) fun _ => false) n with
      | false => rfl
      | true =>
        exfalso
        rcases Zu.gfold_mem _ _ e with z | ⟨x, h1, h2⟩
        · cases z
        · obtain ⟨j, hj⟩ := List.mem_iff_getElem?.mp h1
          have hji : j < i := by
            have := (List.getElem?_eq_some_iff.mp hj).1
            rw [List.length_take] at this
            omega
          rw [List.getElem?_take, if_pos hji] at hj
          have := (hR.mem x (List.mem_of_getElem? hj)).1
          rw [show x = (n : Int) by omega] at hj
          obtain ⟨a1, a2⟩ := List.getElem?_eq_some_iff.mp hj
          obtain ⟨b1, b2⟩ := List.getElem?_eq_some_iff.mp hi
          exact List.pairwise_iff_getElem.mp hR.nd j i a1 b1 hji (a2.trans b2.symm)
    have eT : (R.take (i + 1)).foldl (Zu.gstep (Zu.IndP caps hs)) (fun _ => false) = Zu.gstep (Zu.IndP caps hs) ((R.take i).foldl (Zu.gstep (Zu.IndP caps hs)) fun _ => false) (n : Int) := by
      rw [take_succ hi, List.foldl_append, List.foldl_cons, List.foldl_nil]
    rw [eT]
    generalize ((R.take i).foldl (Zu.gstep (Zu.IndP caps hs)) fun _ => false) = T at d hT ⊢
    obtain ⟨w, e1, h⟩ := Zu.find_some ⟨c.Pool⟩ ok hm d (S := [(n : Int)]) ⟨List.pairwise_singleton _ _, fun k hk => by rw [List.mem_singleton.mp hk]; omega⟩
    rw [← e_find_walk] at e1
    refine ⟨_, dName_ok rfl, ?_⟩
    show StepTo (Zst2.sOf (sSeq _ _) [some (.v (PD c caps hs)), some (.v (.lst (iL ws))), some (.v (.lst (dl.map opD))), some (.v (.int (n : Int))), k4.map Wd.v, none, none]) _
    have hno : Zst2.noSti [some (.v (PD c caps hs)), some (.v (.lst (iL ws))), some (.v (.lst (dl.map opD))), some (.v (.int (n : Int))), k4.map Wd.v, none, none] = true := by cases k4 <;> rfl
    rw [show ∀ s : SF, Zst2.sOf s [some (.v (PD c caps hs)), some (.v (.lst (iL ws))), some (.v (.lst (dl.map opD))), some (.v (.int (n : Int))), k4.map Wd.v, none, none] = s [some (.v (PD c caps hs)), some (.v (.lst (iL ws))), some (.v (.lst (dl.map opD))), some (.v (.int (n : Int))), k4.map Wd.v, none, none] from fun s => by unfold Zst2.sOf; rw [if_pos hno]]
    walk_at "zz"
    rw [callK2 (x := PD c caps hs) (y := .lst (dl.map opD)) (z := .lst (iL [(n : Int)])) rfl rfl, e1]
    rcases h with ⟨rfl, K, st⟩ | ⟨sts, p', rfl, h2, hd, d'⟩
    · walk_at "zz"
      refine step_nx ⟨dl, some (.int (n : Int)), some .non, rfl, ?_⟩
      rw [Zu.gstep_no]
      · exact d
      · intro hI
        obtain ⟨L, h1, h2⟩ := Zu.stuck_no ok d (by omega) hT st
        have := Zu.ind_hall ok hI h1
        omega
    · have : p' = n := by have := List.mem_singleton.mp h2; omega
      subst this
      walk_at "zz"
      rw [show isntD (D.lst (sts.map stD)) D.non = some (.bl true) from rfl]
      walk_at "zz"
      rw [e_take_walk, take_walk_spec (fun s h => by rw [hdl]; exact walk_rng hd s h) (by omega)]
      walk_at "zz"
      refine step_nx ⟨_, some (.int (p' : Int)), some (.lst (sts.map stD)), rfl, ?_⟩
      rw [Zu.gstep_yes]
      · exact d'
      · exact ⟨_, d'⟩
  · rintro g ⟨dl, k3, k4, rfl, d⟩
    have hdl := d.dk.len
    rw [List.take_of_length_le (Nat.le_refl _)] at d
    have hno : Zst2.noSti [some (.v (PD c caps hs)), some (.v (.lst (iL ws))), some (.v (.lst (dl.map opD))), k3.map Wd.v, k4.map Wd.v, none, none] = true := by cases k3 <;> cases k4 <;> rfl
    rw [show ∀ s : SF, Zst2.sOf s [some (.v (PD c caps hs)), some (.v (.lst (iL ws))), some (.v (.lst (dl.map opD))), k3.map Wd.v, k4.map Wd.v, none, none] = s [some (.v (PD c caps hs)), some (.v (.lst (iL ws))), some (.v (.lst (dl.map opD))), k3.map Wd.v, k4.map Wd.v, none, none] from fun s => by unfold Zst2.sOf; rw [if_pos hno]]
    walk_at "zz"
    rewrite [dLc_filt (fun j : Nat => D.tup [.int (j : Int), opD (at_ dl (j : Int))]) (xs := List.range dl.length) (T := fun j => decide (at_ dl ((j : Nat) : Int) ≠ none)) (F := fun j => .int (j : Int))]
    case hf => cases k3 <;> rfl
    case hi =>
      show (some (enumL 0 (dl.map opD)) : Option (List D)) = _
      rw [opD_range, enumL_range]
    case hl => rw [List.length_range]; omega
    case h =>
      intro j hj
      refine ⟨_, (dgTup_a rfl).trans rfl, ?_, fun _ => ?_⟩
      · walk_at "zz"
        cases at_ dl (j : Int) with
        | none => rfl
        | some q => rfl
      · rfl
    rw [pickI_iL, hdl]
    walk_at "zz"
    have e : pickI hs.length (fun j => decide (at_ dl ((j : Nat) : Int) ≠ none)) = lotG caps hs R := by
      refine Zu.pick_congr fun j hj => ?_
      have := d.on j hj
      rw [Bool.eq_iff_iff, decide_eq_true_eq]
      exact this.symm
    rw [e]
end Y
end

section
set_option Elab.async false
set_option linter.all false
set_option maxRecDepth 100000
set_option maxHeartbeats 4000000
/-! What the law collects itself, in pools of at most six pieces. -/
namespace Y
open PySem L2 Zk Zc Zsl
local macro_rules | `(tactic| walk_at "zs") => `(tactic| simp only [beq_self_eq_true, Bool.or_false, Bool.false_or, Bool.true_or, Bool.or_true, Bool.and_false, Bool.false_and, Bool.true_and, Bool.and_true, Zc.isi_ii, Zc.isi_ib, Zc.isi_tt, Zc.isi_ll, Zc.rowsT_len, Zc.rowsL_len, Zc.is_integer_call, Zc.ix_p0, Zc.ix_p1, dgTup2_a, dgTup3_a, Bool.not_true, Bool.not_false, mul_lz, List.flatten_cons, List.flatten_nil, Int.reduceToNat, add_ll, pow10_12, pow10_18, pow10_39, pow10_41, pow10_59, pow10_60, mkLst_some, mkTup_some, List.length_cons, List.length_nil, Nat.zero_le, Nat.reduceAdd, Nat.reduceLeDiff, call1, callO1, call2, callO2, call3, callO3, call4, callO4, call5, callO5, call6, callO6, ap1_some, ap2_some, apN_some, apC_some, d1_a, d2_a, dN_a, aNil_a, aCons_a, dC_a, dVar_z, dVar_s, tDt_a, apAnd_t, apAnd_f, apOr_t, apOr_f, dAndT_a, dOrT_a, apNot_some, dNotT_a, apAndV_t, apAndV_f, dAndV_a, apOrV_t, apOrV_f, dOrV_a, apIf_t, apIf_f, dIf_a, apCh_t, apCh_f, apChain_some, dChain_a, apSeq_nx, apSeq_rt, apSeq_ct, apSeq_bk, sSeq_a, apIfS_t, apIfS_f, sIf_a, sNext_a, sCont_a, sBreak_a, apRet_some, sRet_a, apRetO_some, sRetO_a, sRetN_a, getO_z, getO_s, apRetV_some, sRetV_a, ltB_z, ltB_s, okSlot_s, apAsg_some, sAsg_a, dName_ok, apG_some, dgCons_a, dgNil_a, apAsgO_some, sAsgO_a, sApp_a, sSetI_a, apFor_some, sFor_a, dItems_a, dRng1_a, dRng2_a, apEn_some, apEn_tup, dEnum_a, sFrz_a, frzs_nil, frzs_cons, frzI_o, frzI_v, frzI_n, frzI_s, frz1_s, frzAll_nil, frzAll_o, frzAll_v, frzAll_n, peekT_a, apPk_int, apPk_bl, apPk_str, apPk_non, peekF_a, dCall_a, toO_o, dCallO_a, dMake_a, Wd_v, Wd_o, dSl_a, apSl_some, oNone_a, oSome_a, apO_some, add_ii, sub_ii, lt_ii, le_ii, gt_ii, ge_ii, eq_ii, ne_ii, neg_i, not_b, bl_b, tru_b, tru_i, tru_l, tru_t, tru_n, len_l, len_t, len_scr, abs_i, int_i, list_l, list_t, tuple_l, tuple_t, min_ii, max_ii, rev_l, items_l, items_t, iL_len, run_a, outW_rt, outW_nx, List.map_cons, List.map_nil, List.replicate, List.append_nil, List.cons_append, List.nil_append, List.set_cons_zero, List.set_cons_succ, Option.map_some])
local macro_rules | `(tactic| walk_at "zd") => `(tactic| first | ((with_reducible show okSlot _ _ = true); simp only [okSlot_s, ltB_z, ltB_s]; done) | omega | assumption | decide | (simp only [List.length_map, List.length_append, List.length_cons, List.length_nil, List.length_range, List.length_set, List.length_reverse, iL_len, Zc.rowsT_len, Zc.rowsL_len] at *; omega))
local macro_rules | `(tactic| walk_at "zz") => `(tactic| simp (disch := walk_at "zd") only [dgTup2_a, dgTup3_a, Bool.not_true, Bool.not_false, mul_lz, List.flatten_cons, List.flatten_nil, Int.reduceToNat, add_ll, pow10_12, pow10_18, pow10_39, pow10_41, pow10_59, pow10_60, mkLst_some, mkTup_some, List.length_cons, List.length_nil, Nat.zero_le, Nat.reduceAdd, Nat.reduceLeDiff, call1, callO1, call2, callO2, call3, callO3, call4, callO4, call5, callO5, call6, callO6, ap1_some, ap2_some, apN_some, apC_some, d1_a, d2_a, dN_a, aNil_a, aCons_a, dC_a, dVar_z, dVar_s, tDt_a, apAnd_t, apAnd_f, apOr_t, apOr_f, dAndT_a, dOrT_a, apNot_some, dNotT_a, apAndV_t, apAndV_f, dAndV_a, apOrV_t, apOrV_f, dOrV_a, apIf_t, apIf_f, dIf_a, apCh_t, apCh_f, apChain_some, dChain_a, apSeq_nx, apSeq_rt, apSeq_ct, apSeq_bk, sSeq_a, apIfS_t, apIfS_f, sIf_a, sNext_a, sCont_a, sBreak_a, apRet_some, sRet_a, apRetO_some, sRetO_a, sRetN_a, getO_z, getO_s, apRetV_some, sRetV_a, ltB_z, ltB_s, okSlot_s, apAsg_some, sAsg_a, dName_ok, apG_some, dgCons_a, dgNil_a, apAsgO_some, sAsgO_a, sApp_a, sSetI_a, apFor_some, sFor_a, dItems_a, dRng1_a, dRng2_a, apEn_some, apEn_tup, dEnum_a, sFrz_a, frzs_nil, frzs_cons, frzI_o, frzI_v, frzI_n, frzI_s, frz1_s, frzAll_nil, frzAll_o, frzAll_v, frzAll_n, peekT_a, apPk_int, apPk_bl, apPk_str, apPk_non, peekF_a, dCall_a, toO_o, dCallO_a, dMake_a, Wd_v, Wd_o, dSl_a, apSl_some, oNone_a, oSome_a, apO_some, add_ii, sub_ii, lt_ii, le_ii, gt_ii, ge_ii, eq_ii, ne_ii, neg_i, not_b, bl_b, tru_b, tru_i, tru_l, tru_t, tru_n, len_l, len_t, len_scr, abs_i, int_i, list_l, list_t, tuple_l, tuple_t, min_ii, max_ii, rev_l, items_l, items_t, iL_len, run_a, outW_rt, outW_nx, List.map_cons, List.map_nil, List.replicate, List.append_nil, List.cons_append, List.nil_append, List.set_cons_zero, List.set_cons_succ, Option.map_some, Int.reduceAdd, Int.reduceMul, Int.reduceSub, Int.reduceNeg, beq_self_eq_true, Bool.or_false, Bool.false_or, Bool.true_or, Bool.or_true, Bool.and_false, Bool.false_and, Bool.true_and, Bool.and_true, Zc.isi_ii, Zc.isi_ib, Zc.isi_tt, Zc.isi_ll, Zc.rowsT_len, Zc.rowsL_len, Zc.is_integer_call, Zc.ix_p0, Zc.ix_p1, apR1_any, Int.toNat_natCast, apR2_some, mod_ii, fdiv_ii, mul_small, apApp_some, ix_at, ix_atT, ix_atI, ix_atIT, ix_atR, ix_atRT, List.length_map, List.length_append, List.length_range, List.length_set, Option.map_none, Option.map_map, decide_true, decide_false, peekO_a, apPkO_i, frz_wo, frz_wv, frz_kk, wipeG_nil, wipeG_cons, orB_s, orB_t, orB_f, andB_s, andB_t, andB_f, orV_s, orV_t, orV_f, andV_s, andV_t, andV_f, apOr_b, apAnd_b, apOrV_b, apAndV_b, apCh_b, Zc.cut_from, Zc.cut_to, in_l, in_t, in_pr, eq_op_op, eq_op_pr, eq_pr_op, eq_pr_pr, ne_op_op, ne_op_pr, ne_pr_op, ne_pr_pr, isnt_op, is_op, pr_0, pr_1, st_0, st_1, inP_pr, ninP_pr, nin_l, isi_prt, len_pr, op_some, prD_eq, ix_lit2, ix_lit3, ix_lit4, ix_lit5, ix_lit6, ix_lit7, ix_lit8, ix_lit9, ix_lit10, ix_lit11, ix_lit12, ix_lit13, ix_lit14, ix_lit15, setI_i, setI_p, setI_o, setI_n, snoc_i, snoc_r, snoc_p, snoc_n, snoc_o, snoc_pp, snoc_s, eq_ol, ne_ol, eq_pl, ne_pl, eq_sl, ne_sl, eq_il, ne_il, eq_rl, ne_rl, eq_il1, isi_bb, eq_bb, ne_bb, eq_self, isi_call, Int.reduceBEq, Bool.not_true, Bool.not_false, if_true])
local macro_rules | `(tactic| walk_at "zf") => `(tactic| first | (walk_at "zz"; done) | (walk_at "zz"; rfl) | rfl)
local macro_rules | `(tactic| walk_at "lc") => `(tactic| ((case hf => rfl); (case hi => first | (walk_at "zz"; done) | (walk_at "zz"; rfl) | rfl); (case hl => walk_at "zd"); (case h => (intro a ha; refine ⟨_, dName_ok rfl, ?_, fun hT => ?_⟩ <;> walk_at "zz" <;> rfl))))
local macro_rules | `(tactic| walk_at "lm") => `(tactic| ((case hf => rfl); (case hi => first | (walk_at "zz"; done) | (walk_at "zz"; rfl) | rfl); (case hl => walk_at "zd"); (case h => (intro a ha; refine ⟨_, dName_ok rfl, ?_⟩; walk_at "zz"; rfl))))
variable {caps : List Int} {hs : List (List Int)} {m : Nat}
theorem asInts_iL : ∀ xs : List Int, asInts (iL xs) = some xs
  | [] => rfl
  | x :: xs => by
    show (asInts (iL xs)).map (x :: ·) = _
    rw [asInts_iL xs]; rfl
theorem sum_iL (xs : List Int) : sumD [.lst (iL xs)] = some (.int xs.sum) := by
  show (asInts (iL xs)).map _ = _
  rw [asInts_iL]; rfl
theorem bits_exact (k n : Nat) (hk : k < 64) (hn : n ≤ 6) : g_law_bits [.int (k : Int), .int (n : Int)] = some (.o (.lst (iL (pickI n fun i => k.testBit i)))) := by
  unfold g_law_bits t_law_bits
  walk_at "zz"
  rewrite [dLc_rng (n := n) (T := fun i => k.testBit i) (F := fun i => .int ((i : Nat) : Int))]
  case hf => rfl
  case hi => walk_at "zz"
  case hl => omega
  case h =>
    intro i hi
    refine ⟨_, dName_ok rfl, ?_, fun _ => rfl⟩
    walk_at "zz"
    have key : ∃ p : Int, at_ [1, 2, 4, 8, 16, 32, 64] (i : Int) = p ∧ p = [1, 2, 4, 8, 16, 32, 64].getD i 1 ∧ 0 < p ∧ p ≤ 64 := by
      have hi7 : i < 7 := by omega
      match i, hi7 with
      | 0, _ => exact ⟨1, rfl, rfl, by decide, by decide⟩
      | 1, _ => exact ⟨2, rfl, rfl, by decide, by decide⟩
      | 2, _ => exact ⟨4, rfl, rfl, by decide, by decide⟩
      | 3, _ => exact ⟨8, rfl, rfl, by decide, by decide⟩
      | 4, _ => exact ⟨16, rfl, rfl, by decide, by decide⟩
      | 5, _ => exact ⟨32, rfl, rfl, by decide, by decide⟩
      | 6, _ => exact ⟨64, rfl, rfl, by decide, by decide⟩
    obtain ⟨p, e1, e2, e3, e4⟩ := key
    rw [e1]
    rw [fdiv_ii e3 (by have : p.natAbs ≤ 64 := by omega
                       exact Nat.lt_of_le_of_lt this (by decide))]
    walk_at "zz"
    rw [e2]
    have h : ∀ (k : Fin 64) (i : Fin 6), ((k.val : Int) / [1, 2, 4, 8, 16, 32, 64].getD i.val 1 % 2 == 1) = k.val.testBit i.val := by decide +kernel
    have := h ⟨k, hk⟩ ⟨i, by omega⟩
    exact congrArg some this
  rw [pickI_iL]
  walk_at "zz"
noncomputable def indB (caps : List Int) (hs : List (List Int)) (k : Nat) : Bool := @decide (Zu.IndP caps hs fun i => k.testBit i) (Classical.propDecidable _)
theorem indB_iff {k : Nat} : indB caps hs k = true ↔ Zu.IndP caps hs fun i => k.testBit i := by unfold indB; exact @decide_eq_true_iff _ (Classical.propDecidable _)
noncomputable def dealB (caps : List Int) (hs : List (List Int)) : List Bool := (List.range (2 ^ hs.length)).map (indB caps hs)
/-- a lot can be dealt: it has no more pieces than places, and so has each lot without one piece -/
theorem deal_rule (c : Zc.Cs) (ok : PoolOk caps hs m) (hm : m ≤ 60) (h6 : hs.length ≤ 6) {k : Nat} (hk : k < 2 ^ hs.length) :
    indB caps hs k = (decide (((pickI hs.length fun i => k.testBit i).length : Int) ≤ placesP caps hs (pickI hs.length fun i => k.testBit i)) && (pickI hs.length fun i => k.testBit i).all fun p => indB caps hs (k - 2 ^ p.toNat)) := by
  rw [Bool.eq_iff_iff, Bool.and_eq_true, decide_eq_true_eq, List.all_eq_true, indB_iff]
  constructor
  · intro h
    refine ⟨Zu.ind_hall ok h fun n _ z => z, fun p hp => indB_iff.mpr ?_⟩
    obtain ⟨n, rfl, hn, hb⟩ := pickI_mem.mp hp
    have s := (Zu.bit_sub hs.length h6 k hk n hn hb).2
    exact Zu.ind_sub h fun q hq z => by
      rw [Int.toNat_natCast, s q hq, Bool.and_eq_true] at z
      exact z.1
  · rintro ⟨h1, h2⟩
    by_cases e : ∃ p, p < hs.length ∧ k.testBit p = true
    · obtain ⟨p, hp, hb⟩ := e
      have I1 := indB_iff.mp (h2 (p : Int) (pickI_mem.mpr ⟨p, rfl, hp, hb⟩))
      rw [Int.toNat_natCast] at I1
      have s := (Zu.bit_sub hs.length h6 k hk p hp hb).2
      rcases Zu.aug c ok hm I1 hp (by show (k - 2 ^ p).testBit p = false; rw [s p hp]; simp) with h | ⟨L, l1, l2⟩
      · exact Zu.ind_sub h fun q hq z => Zu.ins_iff.mpr (by
          by_cases y : q = p
          · exact .inr y
          · left
            show (k - 2 ^ p).testBit q = true
            rw [s q hq, z, decide_eq_false y]; rfl)
      · exfalso
        have lk : ∀ q, q < hs.length → L q = true → k.testBit q = true := fun q hq z => by
          rcases Zu.ins_iff.mp (l1 q hq z) with y | y
          · have y : (k - 2 ^ p).testBit q = true := y
            rw [s q hq, Bool.and_eq_true] at y
            exact y.1
          · rw [y]; exact hb
        by_cases w : ∃ q, q < hs.length ∧ k.testBit q = true ∧ L q = false
        · obtain ⟨q, hq, w1, w2⟩ := w
          have I2 := indB_iff.mp (h2 (q : Int) (pickI_mem.mpr ⟨q, rfl, hq, w1⟩))
          rw [Int.toNat_natCast] at I2
          have s2 := (Zu.bit_sub hs.length h6 k hk q hq w1).2
          have := Zu.ind_hall ok I2 (L := L) fun r hr z => by
            show (k - 2 ^ q).testBit r = true
            rw [s2 r hr, lk r hr z, Bool.true_and, Bool.not_eq_true', decide_eq_false_iff_not]
            rintro rfl
            rw [w2] at z
            cases z
          omega
        · have : pickI hs.length L = pickI hs.length fun i => k.testBit i := Zu.pick_congr fun i hi => by
            rw [Bool.eq_iff_iff]
            refine ⟨lk i hi, fun z => ?_⟩
            cases y : L i with
            | true => rfl
            | false => exact absurd ⟨i, hi, z, y⟩ w
          rw [this] at l2
          omega
    · exact Zu.ind_sub ⟨_, Zu.deals_nil⟩ fun n hn z => absurd ⟨n, hn, z⟩ e
theorem lotsL_full (h6 : hs.length ≤ 6) {k : Nat} {L : List Int} (h : (lotsL hs.length)[k]? = some L) : k < 2 ^ hs.length ∧ L = pickI hs.length fun i => k.testBit i := by
  have hk := (List.getElem?_eq_some_iff.mp h).1
  rw [lotsL_len] at hk
  rw [Zu.lot_bit _ h6 k hk] at h
  exact ⟨hk, (Option.some.inj h).symm⟩
theorem pw_at6 {p : Int} (h0 : 0 ≤ p) (h6 : p < 6) : at_ [1, 2, 4, 8, 16, 32] p = Zu.pw2 p.toNat := by
  obtain ⟨n, rfl⟩ : ∃ n : Nat, p = (n : Int) := ⟨p.toNat, by omega⟩
  have : n < 6 := by omega
  match n, this with
  | 0, _ => rfl
  | 1, _ => rfl
  | 2, _ => rfl
  | 3, _ => rfl
  | 4, _ => rfl
  | 5, _ => rfl
theorem dealable_spec (c : Zc.Cs) (ok : PoolOk caps hs m) (hm : m ≤ 60) (h6 : hs.length ≤ 6) : g_law_dealable [.lst (iL caps), .lst (rowsL hs)] = some (.o (.lst ((dealB caps hs).map D.bl))) := by
  have hpm := ok.pm
  unfold g_law_dealable t_law_dealable
  walk_at "zz"
  rw [e_law_lots, law_lots_spec _ (by omega)]
  walk_at "zz"
  refine loop_each (C := fun o => outW o = _) (fun L : List Int => D.lst (iL L)) (lotsL hs.length) (fun k g => ∃ (k3 k4 k5 k6 : Option D), g = [some (.v (.lst (iL caps))), some (.v (.lst (rowsL hs))), some (.o (.lst (((List.range k).map (indB caps hs)).map D.bl))), k3.map Wd.v, k4.map Wd.v, k5.map Wd.v, k6.map Wd.v]) ⟨none, none, none, none, rfl⟩ ?_ ?_
  · rintro k L g hi ⟨k3, k4, k5, k6, rfl⟩
    obtain ⟨hk, rfl⟩ := lotsL_full h6 hi
    have hL := Asc.hold (pickI_asc hs.length fun i => k.testBit i)
    have hLl := hL.len
    have h64 : 2 ^ hs.length ≤ 2 ^ 6 := Nat.pow_le_pow_right (by omega) h6
    have rule := deal_rule c ok hm h6 hk
    have sum := Zu.bit_sum _ h6 k hk
    have sub : ∀ p ∈ (pickI hs.length fun i => k.testBit i), 2 ^ p.toNat ≤ k := fun p hp => by
      obtain ⟨n, rfl, hn, hb⟩ := pickI_mem.mp hp
      rw [Int.toNat_natCast]
      exact (Zu.bit_sub _ h6 k hk n hn hb).1
    generalize (pickI hs.length fun i => k.testBit i) = L at *
    refine ⟨_, dName_ok rfl, ?_⟩
    show StepTo (sSeq _ _ [some (.v (.lst (iL caps))), some (.v (.lst (rowsL hs))), some (.o (.lst (((List.range k).map (indB caps hs)).map D.bl))), some (.v (.lst (iL L))), k4.map Wd.v, k5.map Wd.v, k6.map Wd.v]) _
    walk_at "zz"
    rewrite [dLc_map D.int (xs := L) (F := fun p => .int (Zu.pw2 p.toNat))]
    case hf => cases k6 <;> rfl
    case hi => walk_at "zz"; rfl
    case hl => omega
    case h =>
      intro p hp
      have := hL.2 p hp
      refine ⟨_, dName_ok rfl, ?_⟩
      walk_at "zz"
      rw [pw_at6 this.1 (by omega)]
    rw [map_int]
    walk_at "zz"
    rw [sum_iL, sum]
    walk_at "zz"
    rw [e_law_places, law_places_spec ok hL (by omega)]
    walk_at "zz"
    refine loop_each (C := fun o => StepTo o _) D.int L (fun i g => ∃ (k6 : Option D), g = [some (.v (.lst (iL caps))), some (.v (.lst (rowsL hs))), some (.o (.lst (((List.range k).map (indB caps hs)).map D.bl))), some (.v (.lst (iL L))), some (.v (.int (k : Int))), some (.v (.bl (decide ((L.length : Int) ≤ placesP caps hs L) && (L.take i).all fun p => indB caps hs (k - 2 ^ p.toNat)))), k6.map Wd.v]) ⟨k6, by simp⟩ ?_ ?_
    · rintro i p g hi ⟨k6, rfl⟩
      have hp := List.mem_of_getElem? hi
      have hpr := hL.2 p hp
      have hs2 := sub p hp
      have hpos : 0 < 2 ^ p.toNat := Nat.two_pow_pos _
      refine ⟨_, dName_ok rfl, ?_⟩
      generalize hB : (decide ((L.length : Int) ≤ placesP caps hs L) && (L.take i).all fun p => indB caps hs (k - 2 ^ p.toNat)) = B
      show StepTo (sAsg _ _ [some (.v (.lst (iL caps))), some (.v (.lst (rowsL hs))), some (.o (.lst (((List.range k).map (indB caps hs)).map D.bl))), some (.v (.lst (iL L))), some (.v (.int (k : Int))), some (.v (.bl B)), some (.v (.int p))]) _
      have eix : ixD (.lst (((List.range k).map (indB caps hs)).map D.bl)) (.int ((k : Int) - Zu.pw2 p.toNat)) = some (.bl (indB caps hs (k - 2 ^ p.toNat))) := by
        have e : (k : Int) - Zu.pw2 p.toNat = ((k - 2 ^ p.toNat : Nat) : Int) := by unfold Zu.pw2; omega
        rw [e]
        exact ix_l (by rw [List.getElem?_map, List.getElem?_map, List.getElem?_range (by omega)]; rfl)
      walk_at "zz"
      rw [pw_at6 hpr.1 (by omega), eix]
      walk_at "zz"
      cases B with
      | true =>
        walk_at "zz"
        refine step_nx ⟨some (.int p), ?_⟩
        rw [take_succ hi, List.all_append, ← Bool.and_assoc, hB]
        simp
      | false =>
        walk_at "zz"
        refine step_nx ⟨some (.int p), ?_⟩
        rw [take_succ hi, List.all_append, ← Bool.and_assoc, hB]
        simp
    · rintro g ⟨k6, rfl⟩
      rw [List.take_of_length_le (Nat.le_refl _), ← rule]
      have hlen : (((List.range k).map (indB caps hs)).map D.bl).length < 100000 := by rw [List.length_map, List.length_map, List.length_range]; omega
      walk_at "zz"
      refine step_nx ⟨some (.lst (iL L)), some (.int (k : Int)), some (.bl (indB caps hs k)), k6, ?_⟩
      rw [List.range_succ, List.map_append, List.map_append]
      rfl
  · rintro g ⟨k3, k4, k5, k6, rfl⟩
    walk_at "zz"
    rw [lotsL_len]
    rfl
end Y
end

section
set_option Elab.async false
set_option linter.all false
set_option maxRecDepth 100000
set_option maxHeartbeats 4000000
/-! What the law collects in a small pool; that it is the best. -/
namespace Y
open PySem L2 Zk Zc Zsl
local macro_rules | `(tactic| walk_at "zs") => `(tactic| simp only [beq_self_eq_true, Bool.or_false, Bool.false_or, Bool.true_or, Bool.or_true, Bool.and_false, Bool.false_and, Bool.true_and, Bool.and_true, Zc.isi_ii, Zc.isi_ib, Zc.isi_tt, Zc.isi_ll, Zc.rowsT_len, Zc.rowsL_len, Zc.is_integer_call, Zc.ix_p0, Zc.ix_p1, dgTup2_a, dgTup3_a, Bool.not_true, Bool.not_false, mul_lz, List.flatten_cons, List.flatten_nil, Int.reduceToNat, add_ll, pow10_12, pow10_18, pow10_39, pow10_41, pow10_59, pow10_60, mkLst_some, mkTup_some, List.length_cons, List.length_nil, Nat.zero_le, Nat.reduceAdd, Nat.reduceLeDiff, call1, callO1, call2, callO2, call3, callO3, call4, callO4, call5, callO5, call6, callO6, ap1_some, ap2_some, apN_some, apC_some, d1_a, d2_a, dN_a, aNil_a, aCons_a, dC_a, dVar_z, dVar_s, tDt_a, apAnd_t, apAnd_f, apOr_t, apOr_f, dAndT_a, dOrT_a, apNot_some, dNotT_a, apAndV_t, apAndV_f, dAndV_a, apOrV_t, apOrV_f, dOrV_a, apIf_t, apIf_f, dIf_a, apCh_t, apCh_f, apChain_some, dChain_a, apSeq_nx, apSeq_rt, apSeq_ct, apSeq_bk, sSeq_a, apIfS_t, apIfS_f, sIf_a, sNext_a, sCont_a, sBreak_a, apRet_some, sRet_a, apRetO_some, sRetO_a, sRetN_a, getO_z, getO_s, apRetV_some, sRetV_a, ltB_z, ltB_s, okSlot_s, apAsg_some, sAsg_a, dName_ok, apG_some, dgCons_a, dgNil_a, apAsgO_some, sAsgO_a, sApp_a, sSetI_a, apFor_some, sFor_a, dItems_a, dRng1_a, dRng2_a, apEn_some, apEn_tup, dEnum_a, sFrz_a, frzs_nil, frzs_cons, frzI_o, frzI_v, frzI_n, frzI_s, frz1_s, frzAll_nil, frzAll_o, frzAll_v, frzAll_n, peekT_a, apPk_int, apPk_bl, apPk_str, apPk_non, peekF_a, dCall_a, toO_o, dCallO_a, dMake_a, Wd_v, Wd_o, dSl_a, apSl_some, oNone_a, oSome_a, apO_some, add_ii, sub_ii, lt_ii, le_ii, gt_ii, ge_ii, eq_ii, ne_ii, neg_i, not_b, bl_b, tru_b, tru_i, tru_l, tru_t, tru_n, len_l, len_t, len_scr, abs_i, int_i, list_l, list_t, tuple_l, tuple_t, min_ii, max_ii, rev_l, items_l, items_t, iL_len, run_a, outW_rt, outW_nx, List.map_cons, List.map_nil, List.replicate, List.append_nil, List.cons_append, List.nil_append, List.set_cons_zero, List.set_cons_succ, Option.map_some])
local macro_rules | `(tactic| walk_at "zd") => `(tactic| first | ((with_reducible show okSlot _ _ = true); simp only [okSlot_s, ltB_z, ltB_s]; done) | omega | assumption | decide | (simp only [List.length_map, List.length_append, List.length_cons, List.length_nil, List.length_range, List.length_set, List.length_reverse, iL_len, Zc.rowsT_len, Zc.rowsL_len] at *; omega))
local macro_rules | `(tactic| walk_at "zz") => `(tactic| simp (disch := walk_at "zd") only [dgTup2_a, dgTup3_a, Bool.not_true, Bool.not_false, mul_lz, List.flatten_cons, List.flatten_nil, Int.reduceToNat, add_ll, pow10_12, pow10_18, pow10_39, pow10_41, pow10_59, pow10_60, mkLst_some, mkTup_some, List.length_cons, List.length_nil, Nat.zero_le, Nat.reduceAdd, Nat.reduceLeDiff, call1, callO1, call2, callO2, call3, callO3, call4, callO4, call5, callO5, call6, callO6, ap1_some, ap2_some, apN_some, apC_some, d1_a, d2_a, dN_a, aNil_a, aCons_a, dC_a, dVar_z, dVar_s, tDt_a, apAnd_t, apAnd_f, apOr_t, apOr_f, dAndT_a, dOrT_a, apNot_some, dNotT_a, apAndV_t, apAndV_f, dAndV_a, apOrV_t, apOrV_f, dOrV_a, apIf_t, apIf_f, dIf_a, apCh_t, apCh_f, apChain_some, dChain_a, apSeq_nx, apSeq_rt, apSeq_ct, apSeq_bk, sSeq_a, apIfS_t, apIfS_f, sIf_a, sNext_a, sCont_a, sBreak_a, apRet_some, sRet_a, apRetO_some, sRetO_a, sRetN_a, getO_z, getO_s, apRetV_some, sRetV_a, ltB_z, ltB_s, okSlot_s, apAsg_some, sAsg_a, dName_ok, apG_some, dgCons_a, dgNil_a, apAsgO_some, sAsgO_a, sApp_a, sSetI_a, apFor_some, sFor_a, dItems_a, dRng1_a, dRng2_a, apEn_some, apEn_tup, dEnum_a, sFrz_a, frzs_nil, frzs_cons, frzI_o, frzI_v, frzI_n, frzI_s, frz1_s, frzAll_nil, frzAll_o, frzAll_v, frzAll_n, peekT_a, apPk_int, apPk_bl, apPk_str, apPk_non, peekF_a, dCall_a, toO_o, dCallO_a, dMake_a, Wd_v, Wd_o, dSl_a, apSl_some, oNone_a, oSome_a, apO_some, add_ii, sub_ii, lt_ii, le_ii, gt_ii, ge_ii, eq_ii, ne_ii, neg_i, not_b, bl_b, tru_b, tru_i, tru_l, tru_t, tru_n, len_l, len_t, len_scr, abs_i, int_i, list_l, list_t, tuple_l, tuple_t, min_ii, max_ii, rev_l, items_l, items_t, iL_len, run_a, outW_rt, outW_nx, List.map_cons, List.map_nil, List.replicate, List.append_nil, List.cons_append, List.nil_append, List.set_cons_zero, List.set_cons_succ, Option.map_some, Int.reduceAdd, Int.reduceMul, Int.reduceSub, Int.reduceNeg, beq_self_eq_true, Bool.or_false, Bool.false_or, Bool.true_or, Bool.or_true, Bool.and_false, Bool.false_and, Bool.true_and, Bool.and_true, Zc.isi_ii, Zc.isi_ib, Zc.isi_tt, Zc.isi_ll, Zc.rowsT_len, Zc.rowsL_len, Zc.is_integer_call, Zc.ix_p0, Zc.ix_p1, apR1_any, Int.toNat_natCast, apR2_some, mod_ii, fdiv_ii, mul_small, apApp_some, ix_at, ix_atT, ix_atI, ix_atIT, ix_atR, ix_atRT, List.length_map, List.length_append, List.length_range, List.length_set, Option.map_none, Option.map_map, decide_true, decide_false, peekO_a, apPkO_i, frz_wo, frz_wv, frz_kk, wipeG_nil, wipeG_cons, orB_s, orB_t, orB_f, andB_s, andB_t, andB_f, orV_s, orV_t, orV_f, andV_s, andV_t, andV_f, apOr_b, apAnd_b, apOrV_b, apAndV_b, apCh_b, Zc.cut_from, Zc.cut_to, in_l, in_t, in_pr, eq_op_op, eq_op_pr, eq_pr_op, eq_pr_pr, ne_op_op, ne_op_pr, ne_pr_op, ne_pr_pr, isnt_op, is_op, pr_0, pr_1, st_0, st_1, inP_pr, ninP_pr, nin_l, isi_prt, len_pr, op_some, prD_eq, ix_lit2, ix_lit3, ix_lit4, ix_lit5, ix_lit6, ix_lit7, ix_lit8, ix_lit9, ix_lit10, ix_lit11, ix_lit12, ix_lit13, ix_lit14, ix_lit15, setI_i, setI_p, setI_o, setI_n, snoc_i, snoc_r, snoc_p, snoc_n, snoc_o, snoc_pp, snoc_s, eq_ol, ne_ol, eq_pl, ne_pl, eq_sl, ne_sl, eq_il, ne_il, eq_rl, ne_rl, eq_il1, isi_bb, eq_bb, ne_bb, eq_self, isi_call, Int.reduceBEq, Bool.not_true, Bool.not_false, if_true])
local macro_rules | `(tactic| walk_at "zf") => `(tactic| first | (walk_at "zz"; done) | (walk_at "zz"; rfl) | rfl)
local macro_rules | `(tactic| walk_at "lc") => `(tactic| ((case hf => rfl); (case hi => first | (walk_at "zz"; done) | (walk_at "zz"; rfl) | rfl); (case hl => walk_at "zd"); (case h => (intro a ha; refine ⟨_, dName_ok rfl, ?_, fun hT => ?_⟩ <;> walk_at "zz" <;> rfl))))
local macro_rules | `(tactic| walk_at "lm") => `(tactic| ((case hf => rfl); (case hi => first | (walk_at "zz"; done) | (walk_at "zz"; rfl) | rfl); (case hl => walk_at "zd"); (case h => (intro a ha; refine ⟨_, dName_ok rfl, ?_⟩; walk_at "zz"; rfl))))
variable {caps : List Int} {hs : List (List Int)} {m : Nat}
theorem Row.fresh {ws R : List Int} (hR : Zu.Row ws R ws.length) {I : (Nat → Bool) → Prop} {i : Nat} {n : Nat} (hi : R[i]? = some (n : Int)) : ((R.take i).foldl (Zu.gstep I) fun _ => false) n = false := by
  cases e : ((R.take i).foldl (Zu.gstep I) fun _ => false) n with
  | false => rfl
  | true =>
    exfalso
    rcases Zu.gfold_mem _ _ e with z | ⟨x, h1, h2⟩
    · cases z
    · obtain ⟨j, hj⟩ := List.mem_iff_getElem?.mp h1
      have hji : j < i := by
        have := (List.getElem?_eq_some_iff.mp hj).1
        rw [List.length_take] at this
        omega
      rw [List.getElem?_take, if_pos hji] at hj
      have := (hR.mem x (List.mem_of_getElem? hj)).1
      rw [show x = (n : Int) by omega] at hj
      obtain ⟨a1, a2⟩ := List.getElem?_eq_some_iff.mp hj
      obtain ⟨b1, b2⟩ := List.getElem?_eq_some_iff.mp hi
      exact List.pairwise_iff_getElem.mp hR.nd j i a1 b1 hji (a2.trans b2.symm)
theorem gfold_next {R : List Int} {I : (Nat → Bool) → Prop} {i : Nat} {p : Int} (hi : R[i]? = some p) : (R.take (i + 1)).foldl (Zu.gstep I) (fun _ => false) = Zu.gstep I ((R.take i).foldl (Zu.gstep I) fun _ => false) p := by
  rw [take_succ hi, List.foldl_append, List.foldl_cons, List.foldl_nil]
theorem collected_spec (h6 : hs.length ≤ 6) {ws R : List Int} (hl : ws.length = hs.length) (hR : Zu.Row ws R ws.length) : g_law_collected [.lst (iL ws), .lst ((dealB caps hs).map D.bl)] = some (.v (.lst (iL (lotG caps hs R)))) := by
  have h64 : 2 ^ hs.length ≤ 2 ^ 6 := Nat.pow_le_pow_right (by omega) h6
  obtain ⟨R', e, hR'⟩ := order_spec (ws := ws) (by omega)
  obtain rfl := Zu.row_one hR hR'
  unfold g_law_collected t_law_collected
  walk_at "zz"
  rw [e]
  walk_at "zz"
  refine loop_each (C := fun o => outW o = _) D.int R (fun i g => ∃ (k : Nat) (k3 : Option D), g = [some (.v (.lst (iL ws))), some (.v (.lst ((dealB caps hs).map D.bl))), some (.v (.int (k : Int))), k3.map Wd.v] ∧ k < 2 ^ hs.length ∧ ∀ q, q < hs.length → k.testBit q = ((R.take i).foldl (Zu.gstep (Zu.IndP caps hs)) fun _ => false) q) ⟨0, none, rfl, Nat.two_pow_pos _, fun q _ => by rw [Nat.zero_testBit]; rfl⟩ ?_ ?_
  · rintro i p g hi ⟨k, k3, rfl, hk, hb⟩
    have hp := hR.mem p (List.mem_of_getElem? hi)
    obtain ⟨n, rfl⟩ : ∃ n : Nat, p = (n : Int) := ⟨p.toNat, by omega⟩
    have hn : n < hs.length := by omega
    have hT := Row.fresh hR (I := Zu.IndP caps hs) hi
    rw [gfold_next hi]
    generalize ((R.take i).foldl (Zu.gstep (Zu.IndP caps hs)) fun _ => false) = T at hT hb ⊢
    obtain ⟨k1, k2⟩ := Zu.bit_add _ h6 k hk n hn (by rw [hb n hn, hT])
    have same : ∀ q, q < hs.length → (k + 2 ^ n).testBit q = Zu.ins T n q := fun q hq => by
      rw [k2 q hq, hb q hq]; rfl
    have eix : ixD (.lst ((dealB caps hs).map D.bl)) (.int ((k : Int) + Zu.pw2 n)) = some (.bl (indB caps hs (k + 2 ^ n))) := by
      have e : (k : Int) + Zu.pw2 n = ((k + 2 ^ n : Nat) : Int) := by unfold Zu.pw2; omega
      rw [e]
      exact ix_l (by unfold dealB; rw [List.getElem?_map, List.getElem?_map, List.getElem?_range k1]; rfl)
    have ek : (k : Int) + Zu.pw2 n = ((k + 2 ^ n : Nat) : Int) := by unfold Zu.pw2; omega
    refine ⟨_, dName_ok rfl, ?_⟩
    walk_at "zz"
    rw [pw_at6 (by omega) (by omega), Int.toNat_natCast, eix]
    cases hB : indB caps hs (k + 2 ^ n) with
    | true =>
      walk_at "zz"
      rw [pw_at6 (by omega) (by omega), Int.toNat_natCast]
      refine step_nx ⟨k + 2 ^ n, some (.int (n : Int)), by rw [ek]; rfl, k1, ?_⟩
      rw [Zu.gstep_yes]
      · exact same
      · exact Zu.ind_sub (indB_iff.mp hB) fun q hq z => by
          show (k + 2 ^ n).testBit q = true
          rw [same q hq]; exact z
    | false =>
      walk_at "zz"
      refine step_nx ⟨k, some (.int (n : Int)), rfl, hk, ?_⟩
      rw [Zu.gstep_no]
      · exact hb
      · intro z
        have := indB_iff.mpr (Zu.ind_sub z (T' := fun q => (k + 2 ^ n).testBit q) fun q hq y => by
          rw [Int.toNat_natCast, ← same q hq]; exact y)
        rw [hB] at this
        cases this
  · rintro g ⟨k, k3, rfl, hk, hb⟩
    rw [List.take_of_length_le (Nat.le_refl _)] at hb
    walk_at "zz"
    rw [hl, bits_exact k _ (by omega) h6]
    walk_at "zz"
    rw [show (pickI hs.length fun i => k.testBit i) = lotG caps hs R from Zu.pick_congr hb]
end Y
end

section
set_option Elab.async false
set_option linter.all false
set_option maxRecDepth 100000
set_option maxHeartbeats 4000000
/-! That the greedy lot is best, as the law asks. -/
namespace Y
open PySem L2 Zk Zc Zsl
local macro_rules | `(tactic| walk_at "zs") => `(tactic| simp only [beq_self_eq_true, Bool.or_false, Bool.false_or, Bool.true_or, Bool.or_true, Bool.and_false, Bool.false_and, Bool.true_and, Bool.and_true, Zc.isi_ii, Zc.isi_ib, Zc.isi_tt, Zc.isi_ll, Zc.rowsT_len, Zc.rowsL_len, Zc.is_integer_call, Zc.ix_p0, Zc.ix_p1, dgTup2_a, dgTup3_a, Bool.not_true, Bool.not_false, mul_lz, List.flatten_cons, List.flatten_nil, Int.reduceToNat, add_ll, pow10_12, pow10_18, pow10_39, pow10_41, pow10_59, pow10_60, mkLst_some, mkTup_some, List.length_cons, List.length_nil, Nat.zero_le, Nat.reduceAdd, Nat.reduceLeDiff, call1, callO1, call2, callO2, call3, callO3, call4, callO4, call5, callO5, call6, callO6, ap1_some, ap2_some, apN_some, apC_some, d1_a, d2_a, dN_a, aNil_a, aCons_a, dC_a, dVar_z, dVar_s, tDt_a, apAnd_t, apAnd_f, apOr_t, apOr_f, dAndT_a, dOrT_a, apNot_some, dNotT_a, apAndV_t, apAndV_f, dAndV_a, apOrV_t, apOrV_f, dOrV_a, apIf_t, apIf_f, dIf_a, apCh_t, apCh_f, apChain_some, dChain_a, apSeq_nx, apSeq_rt, apSeq_ct, apSeq_bk, sSeq_a, apIfS_t, apIfS_f, sIf_a, sNext_a, sCont_a, sBreak_a, apRet_some, sRet_a, apRetO_some, sRetO_a, sRetN_a, getO_z, getO_s, apRetV_some, sRetV_a, ltB_z, ltB_s, okSlot_s, apAsg_some, sAsg_a, dName_ok, apG_some, dgCons_a, dgNil_a, apAsgO_some, sAsgO_a, sApp_a, sSetI_a, apFor_some, sFor_a, dItems_a, dRng1_a, dRng2_a, apEn_some, apEn_tup, dEnum_a, sFrz_a, frzs_nil, frzs_cons, frzI_o, frzI_v, frzI_n, frzI_s, frz1_s, frzAll_nil, frzAll_o, frzAll_v, frzAll_n, peekT_a, apPk_int, apPk_bl, apPk_str, apPk_non, peekF_a, dCall_a, toO_o, dCallO_a, dMake_a, Wd_v, Wd_o, dSl_a, apSl_some, oNone_a, oSome_a, apO_some, add_ii, sub_ii, lt_ii, le_ii, gt_ii, ge_ii, eq_ii, ne_ii, neg_i, not_b, bl_b, tru_b, tru_i, tru_l, tru_t, tru_n, len_l, len_t, len_scr, abs_i, int_i, list_l, list_t, tuple_l, tuple_t, min_ii, max_ii, rev_l, items_l, items_t, iL_len, run_a, outW_rt, outW_nx, List.map_cons, List.map_nil, List.replicate, List.append_nil, List.cons_append, List.nil_append, List.set_cons_zero, List.set_cons_succ, Option.map_some])
local macro_rules | `(tactic| walk_at "zd") => `(tactic| first | ((with_reducible show okSlot _ _ = true); simp only [okSlot_s, ltB_z, ltB_s]; done) | omega | assumption | decide | (simp only [List.length_map, List.length_append, List.length_cons, List.length_nil, List.length_range, List.length_set, List.length_reverse, iL_len, Zc.rowsT_len, Zc.rowsL_len] at *; omega))
local macro_rules | `(tactic| walk_at "zz") => `(tactic| simp (disch := walk_at "zd") only [dgTup2_a, dgTup3_a, Bool.not_true, Bool.not_false, mul_lz, List.flatten_cons, List.flatten_nil, Int.reduceToNat, add_ll, pow10_12, pow10_18, pow10_39, pow10_41, pow10_59, pow10_60, mkLst_some, mkTup_some, List.length_cons, List.length_nil, Nat.zero_le, Nat.reduceAdd, Nat.reduceLeDiff, call1, callO1, call2, callO2, call3, callO3, call4, callO4, call5, callO5, call6, callO6, ap1_some, ap2_some, apN_some, apC_some, d1_a, d2_a, dN_a, aNil_a, aCons_a, dC_a, dVar_z, dVar_s, tDt_a, apAnd_t, apAnd_f, apOr_t, apOr_f, dAndT_a, dOrT_a, apNot_some, dNotT_a, apAndV_t, apAndV_f, dAndV_a, apOrV_t, apOrV_f, dOrV_a, apIf_t, apIf_f, dIf_a, apCh_t, apCh_f, apChain_some, dChain_a, apSeq_nx, apSeq_rt, apSeq_ct, apSeq_bk, sSeq_a, apIfS_t, apIfS_f, sIf_a, sNext_a, sCont_a, sBreak_a, apRet_some, sRet_a, apRetO_some, sRetO_a, sRetN_a, getO_z, getO_s, apRetV_some, sRetV_a, ltB_z, ltB_s, okSlot_s, apAsg_some, sAsg_a, dName_ok, apG_some, dgCons_a, dgNil_a, apAsgO_some, sAsgO_a, sApp_a, sSetI_a, apFor_some, sFor_a, dItems_a, dRng1_a, dRng2_a, apEn_some, apEn_tup, dEnum_a, sFrz_a, frzs_nil, frzs_cons, frzI_o, frzI_v, frzI_n, frzI_s, frz1_s, frzAll_nil, frzAll_o, frzAll_v, frzAll_n, peekT_a, apPk_int, apPk_bl, apPk_str, apPk_non, peekF_a, dCall_a, toO_o, dCallO_a, dMake_a, Wd_v, Wd_o, dSl_a, apSl_some, oNone_a, oSome_a, apO_some, add_ii, sub_ii, lt_ii, le_ii, gt_ii, ge_ii, eq_ii, ne_ii, neg_i, not_b, bl_b, tru_b, tru_i, tru_l, tru_t, tru_n, len_l, len_t, len_scr, abs_i, int_i, list_l, list_t, tuple_l, tuple_t, min_ii, max_ii, rev_l, items_l, items_t, iL_len, run_a, outW_rt, outW_nx, List.map_cons, List.map_nil, List.replicate, List.append_nil, List.cons_append, List.nil_append, List.set_cons_zero, List.set_cons_succ, Option.map_some, Int.reduceAdd, Int.reduceMul, Int.reduceSub, Int.reduceNeg, beq_self_eq_true, Bool.or_false, Bool.false_or, Bool.true_or, Bool.or_true, Bool.and_false, Bool.false_and, Bool.true_and, Bool.and_true, Zc.isi_ii, Zc.isi_ib, Zc.isi_tt, Zc.isi_ll, Zc.rowsT_len, Zc.rowsL_len, Zc.is_integer_call, Zc.ix_p0, Zc.ix_p1, apR1_any, Int.toNat_natCast, apR2_some, mod_ii, fdiv_ii, mul_small, apApp_some, ix_at, ix_atT, ix_atI, ix_atIT, ix_atR, ix_atRT, List.length_map, List.length_append, List.length_range, List.length_set, Option.map_none, Option.map_map, decide_true, decide_false, peekO_a, apPkO_i, frz_wo, frz_wv, frz_kk, wipeG_nil, wipeG_cons, orB_s, orB_t, orB_f, andB_s, andB_t, andB_f, orV_s, orV_t, orV_f, andV_s, andV_t, andV_f, apOr_b, apAnd_b, apOrV_b, apAndV_b, apCh_b, Zc.cut_from, Zc.cut_to, in_l, in_t, in_pr, eq_op_op, eq_op_pr, eq_pr_op, eq_pr_pr, ne_op_op, ne_op_pr, ne_pr_op, ne_pr_pr, isnt_op, is_op, pr_0, pr_1, st_0, st_1, inP_pr, ninP_pr, nin_l, isi_prt, len_pr, op_some, prD_eq, ix_lit2, ix_lit3, ix_lit4, ix_lit5, ix_lit6, ix_lit7, ix_lit8, ix_lit9, ix_lit10, ix_lit11, ix_lit12, ix_lit13, ix_lit14, ix_lit15, setI_i, setI_p, setI_o, setI_n, snoc_i, snoc_r, snoc_p, snoc_n, snoc_o, snoc_pp, snoc_s, eq_ol, ne_ol, eq_pl, ne_pl, eq_sl, ne_sl, eq_il, ne_il, eq_rl, ne_rl, eq_il1, isi_bb, eq_bb, ne_bb, eq_self, isi_call, Int.reduceBEq, Bool.not_true, Bool.not_false, if_true])
local macro_rules | `(tactic| walk_at "zf") => `(tactic| first | (walk_at "zz"; done) | (walk_at "zz"; rfl) | rfl)
local macro_rules | `(tactic| walk_at "lc") => `(tactic| ((case hf => rfl); (case hi => first | (walk_at "zz"; done) | (walk_at "zz"; rfl) | rfl); (case hl => walk_at "zd"); (case h => (intro a ha; refine ⟨_, dName_ok rfl, ?_, fun hT => ?_⟩ <;> walk_at "zz" <;> rfl))))
local macro_rules | `(tactic| walk_at "lm") => `(tactic| ((case hf => rfl); (case hi => first | (walk_at "zz"; done) | (walk_at "zz"; rfl) | rfl); (case hl => walk_at "zd"); (case h => (intro a ha; refine ⟨_, dName_ok rfl, ?_⟩; walk_at "zz"; rfl))))
variable {caps : List Int} {hs : List (List Int)} {m : Nat}
theorem pick_filt (n : Nat) (T : Nat → Bool) (f : Int → Bool) : ((pickI n T).filter f).length = Zu.cnt n fun i => T i && f (i : Int) := by
  unfold Zu.cnt pickI
  rw [List.filter_map, List.length_map, List.length_map, List.filter_filter]
  congr 1
  exact List.filter_congr fun i _ => Bool.and_comm _ _
theorem at_nn {ws : List Int} (h : ∀ x ∈ ws, 0 ≤ x ∧ x ≤ 10 ^ 39) (i : Nat) : 0 ≤ at_ ws (i : Int) := by
  by_cases z : i < ws.length
  · exact (h _ (at_mem (by omega) (by omega))).1
  · unfold at_
    rw [Int.toNat_natCast, List.getElem?_eq_none (by omega)]
    exact Int.le_refl 0
theorem is_best_spec {ws : List Int} {n : Nat} (hn : n ≤ 100) (hl : ws.length = n) (h0 : ∀ x ∈ ws, 0 ≤ x ∧ x ≤ 10 ^ 39) {T G : Nat → Bool} (h : ∀ w : Int, Zu.cnt n (fun i => T i && decide (w ≤ at_ ws (i : Int))) ≤ Zu.cnt n (fun i => G i && decide (w ≤ at_ ws (i : Int)))) :
    g_law_is_best [.lst (iL ws), .lst (iL (pickI n G)), .lst (iL (pickI n T))] = some (.v (.bl true)) := by
  have hold : ∀ U : Nat → Bool, Hold n (pickI n U) := fun U => Asc.hold (pickI_asc n U)
  have hsum : ((pickI n T).map (at_ ws)).sum ≤ ((pickI n G).map (at_ ws)).sum := by
    rw [Zu.sum_pick (at_nn h0), Zu.sum_pick (at_nn h0)]
    refine Int.ofNat_le.mpr (Zu.sm_le fun k => ?_)
    have := h (k : Int)
    rw [Zu.cnt_congr (g := fun i => T i && decide (k ≤ (at_ ws (i : Int)).toNat)) fun i _ => by have := at_nn h0 i; rw [show decide ((k : Int) ≤ at_ ws (i : Int)) = decide (k ≤ (at_ ws (i : Int)).toNat) from decide_eq_decide.mpr (by omega)], Zu.cnt_congr (f := fun i => G i && decide ((k : Int) ≤ at_ ws (i : Int))) (g := fun i => G i && decide (k ≤ (at_ ws (i : Int)).toNat)) fun i _ => by have := at_nn h0 i; rw [show decide ((k : Int) ≤ at_ ws (i : Int)) = decide (k ≤ (at_ ws (i : Int)).toNat) from decide_eq_decide.mpr (by omega)]] at this
    exact this
  have hcnt : ∀ w : Int, ((pickI n T).filter fun p => decide (w ≤ at_ ws p)).length ≤ ((pickI n G).filter fun p => decide (w ≤ at_ ws p)).length := fun w => by
    rw [pick_filt, pick_filt]
    exact h w
  have hT := hold T
  have hG := hold G
  generalize pickI n T = A at *
  generalize pickI n G = B at *
  have hAl := hT.len
  have hBl := hG.len
  unfold g_law_is_best t_law_is_best
  walk_at "zz"
  rewrite [dLc_map D.int (xs := A) (F := fun p => .int (at_ ws p))]
  case hf => rfl
  case hi => walk_at "zz"; rfl
  case hl => omega
  case h =>
    intro p hp
    have := hT.2 p hp
    refine ⟨_, dName_ok rfl, ?_⟩
    walk_at "zz"
  rewrite [dLc_map D.int (xs := B) (F := fun p => .int (at_ ws p))]
  case hf => rfl
  case hi => walk_at "zz"; rfl
  case hl => omega
  case h =>
    intro p hp
    have := hG.2 p hp
    refine ⟨_, dName_ok rfl, ?_⟩
    walk_at "zz"
  rw [map_int, map_int]
  walk_at "zz"
  rw [sum_iL, sum_iL]
  walk_at "zz"
  rw [show decide ((B.map fun p => at_ ws p).sum < (A.map fun p => at_ ws p).sum) = false from decide_eq_false (Int.not_lt.mpr hsum)]
  walk_at "zz"
  refine loop_each (C := fun o => outW o = _) D.int ws (fun i g => ∃ (k3 : Option D), g = [some (.v (.lst (iL ws))), some (.v (.lst (iL B))), some (.v (.lst (iL A))), k3.map Wd.v, none]) ⟨none, rfl⟩ ?_ ?_
  · rintro i w g hi ⟨k3, rfl⟩
    refine ⟨_, dName_ok rfl, ?_⟩
    show StepTo (sIf _ _ _ [some (.v (.lst (iL ws))), some (.v (.lst (iL B))), some (.v (.lst (iL A))), some (.v (.int w)), none]) _
    walk_at "zz"
    rewrite [dLc_filt D.int (xs := A) (T := fun p => decide (w ≤ at_ ws p)) (F := D.int)]
    case hf => rfl
    case hi => walk_at "zz"; rfl
    case hl => omega
    case h =>
      intro p hp
      have := hT.2 p hp
      refine ⟨_, dName_ok rfl, ?_, fun _ => ?_⟩
      · walk_at "zz"
      · walk_at "zz"
    rewrite [dLc_filt D.int (xs := B) (T := fun p => decide (w ≤ at_ ws p)) (F := D.int)]
    case hf => rfl
    case hi => walk_at "zz"; rfl
    case hl => omega
    case h =>
      intro p hp
      have := hG.2 p hp
      refine ⟨_, dName_ok rfl, ?_, fun _ => ?_⟩
      · walk_at "zz"
      · walk_at "zz"
    have := hcnt w
    rw [fold_iL, fold_iL]
    walk_at "zz"
    rw [show decide (((B.filter fun p => decide (w ≤ at_ ws p)).length : Int) < ((A.filter fun p => decide (w ≤ at_ ws p)).length : Int)) = false from decide_eq_false (by omega)]
    walk_at "zz"
    exact step_nx ⟨some (.int w), rfl⟩
  · rintro g ⟨k3, rfl⟩
    walk_at "zz"
end Y
end

section
set_option Elab.async false
set_option linter.all false
set_option maxRecDepth 100000
set_option maxHeartbeats 4000000
/-! One pool asked several times. -/
namespace Y
open PySem L2 Zk Zc Zsl
def askD (o : List Int × List Int) : D := .tup [.lst (iL o.1), .lst (iL o.2)]
theorem ask0 {o : List Int × List Int} : ixD (askD o) (.int 0) = some (.lst (iL o.1)) := rfl
theorem ask1 {o : List Int × List Int} : ixD (askD o) (.int 1) = some (.lst (iL o.2)) := rfl
theorem sOf_if {s : SF} {g : Gm} : Zst2.sOf s g = if Zst2.noSti g = true then s g else none := rfl
theorem ns_0 : Zst2.noSti [] = true := rfl
theorem ns_n {g : Gm} : Zst2.noSti (none :: g) = Zst2.noSti g := rfl
theorem ns_v {d : D} {g : Gm} : Zst2.noSti (some (.v d) :: g) = Zst2.noSti g := rfl
theorem ns_l {ds : List D} {g : Gm} : Zst2.noSti (some (.o (.lst ds)) :: g) = Zst2.noSti g := rfl
theorem ns_mv {k : Option D} {g : Gm} : Zst2.noSti (k.map Wd.v :: g) = Zst2.noSti g := by cases k <;> rfl
theorem ns_ml {k : Option (List D)} {g : Gm} : Zst2.noSti ((k.map fun l => Wd.o (.lst l)) :: g) = Zst2.noSti g := by cases k <;> rfl
local macro_rules | `(tactic| walk_at "zs") => `(tactic| simp only [beq_self_eq_true, Bool.or_false, Bool.false_or, Bool.true_or, Bool.or_true, Bool.and_false, Bool.false_and, Bool.true_and, Bool.and_true, Zc.isi_ii, Zc.isi_ib, Zc.isi_tt, Zc.isi_ll, Zc.rowsT_len, Zc.rowsL_len, Zc.is_integer_call, Zc.ix_p0, Zc.ix_p1, dgTup2_a, dgTup3_a, Bool.not_true, Bool.not_false, mul_lz, List.flatten_cons, List.flatten_nil, Int.reduceToNat, add_ll, pow10_12, pow10_18, pow10_39, pow10_41, pow10_59, pow10_60, mkLst_some, mkTup_some, List.length_cons, List.length_nil, Nat.zero_le, Nat.reduceAdd, Nat.reduceLeDiff, call1, callO1, call2, callO2, call3, callO3, call4, callO4, call5, callO5, call6, callO6, ap1_some, ap2_some, apN_some, apC_some, d1_a, d2_a, dN_a, aNil_a, aCons_a, dC_a, dVar_z, dVar_s, tDt_a, apAnd_t, apAnd_f, apOr_t, apOr_f, dAndT_a, dOrT_a, apNot_some, dNotT_a, apAndV_t, apAndV_f, dAndV_a, apOrV_t, apOrV_f, dOrV_a, apIf_t, apIf_f, dIf_a, apCh_t, apCh_f, apChain_some, dChain_a, apSeq_nx, apSeq_rt, apSeq_ct, apSeq_bk, sSeq_a, apIfS_t, apIfS_f, sIf_a, sNext_a, sCont_a, sBreak_a, apRet_some, sRet_a, apRetO_some, sRetO_a, sRetN_a, getO_z, getO_s, apRetV_some, sRetV_a, ltB_z, ltB_s, okSlot_s, apAsg_some, sAsg_a, dName_ok, apG_some, dgCons_a, dgNil_a, apAsgO_some, sAsgO_a, sApp_a, sSetI_a, apFor_some, sFor_a, dItems_a, dRng1_a, dRng2_a, apEn_some, apEn_tup, dEnum_a, sFrz_a, frzs_nil, frzs_cons, frzI_o, frzI_v, frzI_n, frzI_s, frz1_s, frzAll_nil, frzAll_o, frzAll_v, frzAll_n, peekT_a, apPk_int, apPk_bl, apPk_str, apPk_non, peekF_a, dCall_a, toO_o, dCallO_a, dMake_a, Wd_v, Wd_o, dSl_a, apSl_some, oNone_a, oSome_a, apO_some, add_ii, sub_ii, lt_ii, le_ii, gt_ii, ge_ii, eq_ii, ne_ii, neg_i, not_b, bl_b, tru_b, tru_i, tru_l, tru_t, tru_n, len_l, len_t, len_scr, abs_i, int_i, list_l, list_t, tuple_l, tuple_t, min_ii, max_ii, rev_l, items_l, items_t, iL_len, run_a, outW_rt, outW_nx, List.map_cons, List.map_nil, List.replicate, List.append_nil, List.cons_append, List.nil_append, List.set_cons_zero, List.set_cons_succ, Option.map_some])
local macro_rules | `(tactic| walk_at "zd") => `(tactic| first | ((with_reducible show okSlot _ _ = true); simp only [okSlot_s, ltB_z, ltB_s]; done) | omega | assumption | decide | (simp only [List.length_map, List.length_append, List.length_cons, List.length_nil, List.length_range, List.length_set, List.length_reverse, iL_len, Zc.rowsT_len, Zc.rowsL_len] at *; omega))
local macro_rules | `(tactic| walk_at "zz") => `(tactic| simp (disch := walk_at "zd") only [dgTup2_a, dgTup3_a, Bool.not_true, Bool.not_false, mul_lz, List.flatten_cons, List.flatten_nil, Int.reduceToNat, add_ll, pow10_12, pow10_18, pow10_39, pow10_41, pow10_59, pow10_60, mkLst_some, mkTup_some, List.length_cons, List.length_nil, Nat.zero_le, Nat.reduceAdd, Nat.reduceLeDiff, call1, callO1, call2, callO2, call3, callO3, call4, callO4, call5, callO5, call6, callO6, ap1_some, ap2_some, apN_some, apC_some, d1_a, d2_a, dN_a, aNil_a, aCons_a, dC_a, dVar_z, dVar_s, tDt_a, apAnd_t, apAnd_f, apOr_t, apOr_f, dAndT_a, dOrT_a, apNot_some, dNotT_a, apAndV_t, apAndV_f, dAndV_a, apOrV_t, apOrV_f, dOrV_a, apIf_t, apIf_f, dIf_a, apCh_t, apCh_f, apChain_some, dChain_a, apSeq_nx, apSeq_rt, apSeq_ct, apSeq_bk, sSeq_a, apIfS_t, apIfS_f, sIf_a, sNext_a, sCont_a, sBreak_a, apRet_some, sRet_a, apRetO_some, sRetO_a, sRetN_a, getO_z, getO_s, apRetV_some, sRetV_a, ltB_z, ltB_s, okSlot_s, apAsg_some, sAsg_a, dName_ok, apG_some, dgCons_a, dgNil_a, apAsgO_some, sAsgO_a, sApp_a, sSetI_a, apFor_some, sFor_a, dItems_a, dRng1_a, dRng2_a, apEn_some, apEn_tup, dEnum_a, sFrz_a, frzs_nil, frzs_cons, frzI_o, frzI_v, frzI_n, frzI_s, frz1_s, frzAll_nil, frzAll_o, frzAll_v, frzAll_n, peekT_a, apPk_int, apPk_bl, apPk_str, apPk_non, peekF_a, dCall_a, toO_o, dCallO_a, dMake_a, Wd_v, Wd_o, dSl_a, apSl_some, oNone_a, oSome_a, apO_some, add_ii, sub_ii, lt_ii, le_ii, gt_ii, ge_ii, eq_ii, ne_ii, neg_i, not_b, bl_b, tru_b, tru_i, tru_l, tru_t, tru_n, len_l, len_t, len_scr, abs_i, int_i, list_l, list_t, tuple_l, tuple_t, min_ii, max_ii, rev_l, items_l, items_t, iL_len, run_a, outW_rt, outW_nx, List.map_cons, List.map_nil, List.replicate, List.append_nil, List.cons_append, List.nil_append, List.set_cons_zero, List.set_cons_succ, Option.map_some, Int.reduceAdd, Int.reduceMul, Int.reduceSub, Int.reduceNeg, beq_self_eq_true, Bool.or_false, Bool.false_or, Bool.true_or, Bool.or_true, Bool.and_false, Bool.false_and, Bool.true_and, Bool.and_true, Zc.isi_ii, Zc.isi_ib, Zc.isi_tt, Zc.isi_ll, Zc.rowsT_len, Zc.rowsL_len, Zc.is_integer_call, Zc.ix_p0, Zc.ix_p1, apR1_any, Int.toNat_natCast, apR2_some, mod_ii, fdiv_ii, mul_small, apApp_some, ix_at, ix_atT, ix_atI, ix_atIT, ix_atR, ix_atRT, List.length_map, List.length_append, List.length_range, List.length_set, Option.map_none, Option.map_map, decide_true, decide_false, peekO_a, apPkO_i, frz_wo, frz_wv, frz_kk, wipeG_nil, wipeG_cons, orB_s, orB_t, orB_f, andB_s, andB_t, andB_f, orV_s, orV_t, orV_f, andV_s, andV_t, andV_f, apOr_b, apAnd_b, apOrV_b, apAndV_b, apCh_b, Zc.cut_from, Zc.cut_to, in_l, in_t, in_pr, eq_op_op, eq_op_pr, eq_pr_op, eq_pr_pr, ne_op_op, ne_op_pr, ne_pr_op, ne_pr_pr, isnt_op, is_op, pr_0, pr_1, st_0, st_1, inP_pr, ninP_pr, nin_l, isi_prt, len_pr, op_some, prD_eq, ix_lit2, ix_lit3, ix_lit4, ix_lit5, ix_lit6, ix_lit7, ix_lit8, ix_lit9, ix_lit10, ix_lit11, ix_lit12, ix_lit13, ix_lit14, ix_lit15, setI_i, setI_p, setI_o, setI_n, snoc_i, snoc_r, snoc_p, snoc_n, snoc_o, snoc_pp, snoc_s, eq_ol, ne_ol, eq_pl, ne_pl, eq_sl, ne_sl, eq_il, ne_il, eq_rl, ne_rl, eq_il1, isi_bb, eq_bb, ne_bb, eq_self, isi_call, Int.reduceBEq, Bool.not_true, Bool.not_false, if_true, sOf_if, ns_0, ns_n, ns_v, ns_l, ns_mv, ns_ml, ask0, ask1])
local macro_rules | `(tactic| walk_at "zf") => `(tactic| first | (walk_at "zz"; done) | (walk_at "zz"; rfl) | rfl)
local macro_rules | `(tactic| walk_at "lc") => `(tactic| ((case hf => rfl); (case hi => first | (walk_at "zz"; done) | (walk_at "zz"; rfl) | rfl); (case hl => walk_at "zd"); (case h => (intro a ha; refine ⟨_, dName_ok rfl, ?_, fun hT => ?_⟩ <;> walk_at "zz" <;> rfl))))
local macro_rules | `(tactic| walk_at "lm") => `(tactic| ((case hf => rfl); (case hi => first | (walk_at "zz"; done) | (walk_at "zz"; rfl) | rfl); (case hl => walk_at "zd"); (case h => (intro a ha; refine ⟨_, dName_ok rfl, ?_⟩; walk_at "zz"; rfl))))
variable {caps : List Int} {hs : List (List Int)} {m : Nat}
theorem is_right_spec (c : Cs) (ok : PoolOk caps hs m) (hm : m ≤ 60) {asked : List (List Int × List Int)} (hlen : asked.length ≤ 10) (hA : ∀ o ∈ asked, o.1.length ≤ 100 ∧ o.2.length ≤ 100 ∧ g_best_lot c [PD c caps hs, .lst (iL o.1)] = some (.o (.lst (iL o.2)))) :
    g_law_is_right c [.lst (iL caps), .lst (rowsL hs), .lst (asked.map askD)] = some (.v (.bl true)) := by
  have hpm := ok.pm
  have h12 := ok.s12
  have hcl : ∀ h ∈ hs, h.length ≤ 100 := fun h hh => by have := (Zc.Asc.hold (ok.asc h hh)).len; omega
  have hAl : ∀ o ∈ asked ++ asked.take 1, o ∈ asked := fun o ho => (List.mem_append.mp ho).elim id List.mem_of_mem_take
  unfold g_law_is_right t_law_is_right
  walk_at "zz"
  rewrite [dLc_map (fun h : List Int => D.lst (iL h)) (xs := hs) (F := fun h => D.lst (iL h))]
  case hf => rfl
  case hi => walk_at "zz"; rfl
  case hl => omega
  case h =>
    intro h hh
    have := hcl h hh
    refine ⟨_, dName_ok rfl, ?_⟩
    walk_at "zz"
  rw [show (hs.map fun h => D.lst (iL h)) = rowsL hs from rfl]
  walk_at "zz"
  rw [make_spec c ok (by omega)]
  walk_at "zz"
  rw [show cutL (asked.map askD) none (some 1) = (asked.map askD).take 1 from Zc.cut_to (asked.map askD) 1, show addD (.lst (asked.map askD)) (.lst ((asked.map askD).take 1)) = some (.lst ((asked ++ asked.take 1).map askD)) from by rw [List.map_append, List.map_take]; exact if_pos (by rw [List.length_take, List.length_map]; omega)]
  walk_at "zz"
  refine loop_each (C := fun o => outW o = _) askD (asked ++ asked.take 1) (fun i g => ∃ (k4 k5 : Option D) (k6 : Option (List D)), g = [some (.v (.lst (iL caps))), some (.v (.lst (rowsL hs))), some (.v (.lst (asked.map askD))), some (.v (PD c caps hs)), k4.map Wd.v, k5.map Wd.v, k6.map fun l => Wd.o (.lst l), none, none]) ⟨none, none, none, rfl⟩ ?_ ?_
  · rintro i o g hi ⟨k4, k5, k6, rfl⟩
    obtain ⟨o1, o2, ob⟩ := hA o (hAl o (List.mem_of_getElem? hi))
    refine ⟨_, dName_ok rfl, ?_⟩
    show StepTo (sSeq (Zst2.sOf _) _ [some (.v (.lst (iL caps))), some (.v (.lst (rowsL hs))), some (.v (.lst (asked.map askD))), some (.v (PD c caps hs)), some (.v (askD o)), k5.map Wd.v, k6.map fun l => Wd.o (.lst l), none, none]) _
    walk_at "zz"
    rw [ob]
    walk_at "zz"
    rewrite [dLc_filt D.int (xs := o.2) (T := fun _ => false) (F := D.int)]
    case hf => rfl
    case hi => walk_at "zz"; rfl
    case hl => omega
    case h =>
      intro p hp
      refine ⟨_, dName_ok rfl, ?_, fun z => by cases z⟩
      walk_at "zz"
    rw [show List.filter (fun _ => false) o.2 = [] from List.filter_eq_nil_iff.mpr (by simp), List.map_nil]
    have hl6 : (iL o.2).length < 100000 := by rw [iL_len]; omega
    walk_at "zz"
    rw [show decide ((0 : Int) < ((0 : Nat) : Int)) = false from rfl]
    walk_at "zz"
    exact step_nx ⟨some (askD o), some (.lst (iL o.1)), some (iL ((o.2 ++ [0]).set 0 99)), rfl⟩
  · rintro g ⟨k4, k5, k6, rfl⟩
    walk_at "zz"
    rw [fp_caps]
    walk_at "zz"
    rewrite [dLc_map (fun h : List Int => D.tup (iL h)) (xs := hs) (F := fun h => D.lst (iL h))]
    case hf => cases k4 <;> cases k5 <;> cases k6 <;> rfl
    case hi =>
      walk_at "zz"
      rw [fp_holders]
      rfl
    case hl => omega
    case h =>
      intro h hh
      have := hcl h hh
      refine ⟨_, dName_ok rfl, ?_⟩
      walk_at "zz"
    rw [show (hs.map fun h => D.lst (iL h)) = rowsL hs from rfl]
    walk_at "zz"
end Y
end

section
set_option Elab.async false
set_option linter.all false
set_option maxRecDepth 100000
set_option maxHeartbeats 2000000
/-! Pools whose pieces have just a pair each. -/
namespace Zu
open PySem L2 Zk Zc Zsl
theorem cnt_filter (n : Nat) (T : Nat → Bool) : cnt n T = ((List.range n).filter T).length := by unfold cnt pickI; rw [List.length_map]
theorem count_dl {N : Nat} {dl : List (Option Pr)} (hl : dl.length = N) (o : Option Pr) : dl.count o = cnt N fun n => decide (at_ dl (n : Int) = o) := by
  have e : dl = (List.range N).map fun n => at_ dl ((n : Nat) : Int) := by
    apply List.ext_getElem?
    intro j
    rw [List.getElem?_map]
    by_cases h : j < N
    · rw [Zc.at_of (dl := dl) (by omega), List.getElem?_range h]; rfl
    · rw [List.getElem?_eq_none (by omega), List.getElem?_eq_none (by rw [List.length_range]; omega)]; rfl
  rw [cnt_filter]
  conv => lhs; rw [e]
  rw [List.count_eq_countP, List.countP_map, List.countP_eq_length_filter]
  congr 1
  exact List.filter_congr fun n _ => by
    show (at_ dl (n : Int) == o) = _
    rw [Bool.eq_iff_iff, beq_iff_eq, decide_eq_true_eq]
structure Apart (caps : List Int) (hs : List (List Int)) : Prop where
  pos : ∀ x ∈ caps, 1 ≤ x
  two : ∀ h ∈ hs, ∃ a b : Int, h = [a, b]
def pairAt (hs : List (List Int)) (n : Nat) : Pr := (at_ (at_ hs (n : Int)) 0, at_ (at_ hs (n : Int)) 1)
section
variable {caps : List Int} {hs : List (List Int)} {m : Nat}
theorem Apart.at (ok : PoolOk caps hs m) (ap : Apart caps hs) {n : Nat} (hn : n < hs.length) : at_ hs (n : Int) = [(pairAt hs n).1, (pairAt hs n).2] ∧ (0 ≤ (pairAt hs n).1 ∧ (pairAt hs n).1 < (pairAt hs n).2 ∧ (pairAt hs n).2 < (caps.length : Int)) ∧ 1 ≤ roomOf caps (pairAt hs n) := by
  have hm := at_mem (xs := hs) (k := (n : Int)) (by omega) (by omega)
  obtain ⟨a, b, e⟩ := ap.two _ hm
  have ha := ok.asc _ hm
  unfold pairAt
  rw [e] at ha ⊢
  have h1 := ha.2 a (by simp)
  have h2 := ha.2 b (by simp)
  have h3 : a < b := by
    have := ha.1
    simp at this
    exact this
  have c1 : 1 ≤ capAt caps a := ap.pos _ (at_mem (xs := caps) (k := a) (by omega) (by omega))
  have c2 : 1 ≤ capAt caps b := ap.pos _ (at_mem (xs := caps) (k := b) (by omega) (by omega))
  refine ⟨rfl, ⟨h1.1, h3, h2.2⟩, ?_⟩
  show 1 ≤ if capAt caps b < capAt caps a then capAt caps b else capAt caps a
  split <;> assumption
theorem ind_apart (ok : PoolOk caps hs m) (ap : Apart caps hs) (S : Nat → Bool) : IndP caps hs S ↔ ∀ p, p < hs.length → S p = true → ((cnt hs.length fun n => S n && decide (pairAt hs n = pairAt hs p) : Nat) : Int) ≤ roomOf caps (pairAt hs p) := by
  constructor
  · rintro ⟨dl, dk, on⟩ p hp hS
    have hl := dk.len
    have own : ∀ n, n < hs.length → S n = true → at_ dl (n : Int) = some (pairAt hs n) := fun n hn z => by
      have := (on n hn).mp z
      cases e : at_ dl (n : Int) with
      | none => exact absurd e this
      | some q =>
        obtain ⟨h, h1, h2⟩ := dk.held n q (by rw [Zc.at_of (dl := dl) (by omega), e])
        have eh : at_ hs (n : Int) = h := at_eq rfl h1
        have a := ap.at ok hn
        have w := (heldP_mem (ok.asc h (List.mem_of_getElem? h1)) q).mp h2
        rw [← eh, a.1] at w
        simp at w
        obtain ⟨w1, w2, w3, _⟩ := w
        have : q = pairAt hs n := Prod.ext (by omega) (by omega)
        rw [this]
    have c := count_dl hl (some (pairAt hs p))
    have le : cnt hs.length (fun n => S n && decide (pairAt hs n = pairAt hs p)) ≤ dl.count (some (pairAt hs p)) := by
      rw [c]
      refine cnt_mono fun n hn z => ?_
      rw [Bool.and_eq_true, decide_eq_true_eq] at z
      rw [own n hn z.1, z.2]
      exact decide_eq_true rfl
    rcases dk.room (pairAt hs p) with z | z
    · have := (ap.at ok hp).2.2
      omega
    · omega
  · intro h
    have get : ∀ n, n < hs.length → ((List.range hs.length).map fun n => if S n = true then some (pairAt hs n) else none)[n]? = some (if S n = true then some (pairAt hs n) else none) := fun n hn => by
      rw [List.getElem?_map, List.getElem?_range hn]; rfl
    have hat : ∀ n, n < hs.length → at_ ((List.range hs.length).map fun n => if S n = true then some (pairAt hs n) else none) (n : Int) = if S n = true then some (pairAt hs n) else none := fun n hn => at_eq rfl (get n hn)
    have hl : ((List.range hs.length).map fun n => if S n = true then some (pairAt hs n) else none).length = hs.length := by rw [List.length_map, List.length_range]
    refine ⟨_, ⟨hl, fun n q e => ?_, fun q => ?_⟩, fun n hn => ?_⟩
    · have hn := (List.getElem?_eq_some_iff.mp e).1
      rw [hl] at hn
      rw [get n hn] at e
      split at e
      · cases e
        have a := ap.at ok hn
        refine ⟨_, hs_at hn, ?_⟩
        have hm := at_mem (xs := hs) (k := (n : Int)) (by omega) (by omega)
        refine (heldP_mem (ok.asc _ hm) _).mpr ?_
        rw [a.1]
        exact ⟨by simp, by simp, a.2.1.2.1, by omega⟩
      · cases e
    · rw [count_dl hl]
      have e : cnt hs.length (fun n => decide (at_ ((List.range hs.length).map fun n => if S n = true then some (pairAt hs n) else none) (n : Int) = some q)) = cnt hs.length fun n => S n && decide (pairAt hs n = q) := cnt_congr fun n hn => by
        rw [hat n hn]
        cases S n with
        | true => simp
        | false => simp
      rw [e]
      by_cases z : ∃ p, p < hs.length ∧ S p = true ∧ pairAt hs p = q
      · obtain ⟨p, h1, h2, rfl⟩ := z
        exact .inr (h p h1 h2)
      · left
        have := cnt_mono (n := hs.length) (f := fun n => S n && decide (pairAt hs n = q)) (g := fun _ => false) fun n hn y => by
          rw [Bool.and_eq_true, decide_eq_true_eq] at y
          exact absurd ⟨n, hn, y.1, y.2⟩ z
        have h0 : cnt hs.length (fun _ => false) = 0 := by rw [cnt_filter]; simp
        omega
    · rw [hat n hn]
      cases S n with
      | true => simp
      | false => simp
theorem cnt_ins {N : Nat} {T U : Nat → Bool} {p : Nat} (hp : p < N) (hT : T p = false) (hU : U p = true) : cnt N (fun n => ins T p n && U n) = cnt N (fun n => T n && U n) + 1 := by
  have h1 : cnt N (fun n => decide (n = p)) = 1 := by
    have := filter_one hp (T := fun n => decide (n = p)) fun i _ => decide_eq_true_iff
    rw [cnt_filter, this]; rfl
  have a := cnt_le (n := N) (f := fun n => ins T p n && U n) (g := fun n => T n && U n) (h := fun n => decide (n = p)) fun i hi z => by
    rw [Bool.and_eq_true] at z
    rcases ins_iff.mp z.1 with y | y
    · left; show (T i && U i) = true; rw [y, z.2]; rfl
    · right; exact decide_eq_true y
  have b := cnt_two (n := N) (f := fun n => ins T p n && U n) (g := fun n => T n && U n) (h := fun n => decide (n = p)) (fun i _ z => by
    rw [Bool.and_eq_true] at z
    show (ins T p i && U i) = true
    rw [ins_iff.mpr (.inl z.1), z.2]; rfl) (fun i _ z => by
    obtain rfl := of_decide_eq_true z
    show (ins T i i && U i) = true
    rw [ins_iff.mpr (.inr rfl), hU]; rfl) fun i _ z w => by
    obtain rfl := of_decide_eq_true w
    rw [hT] at z
    cases z
  omega
/-- a piece joins if its pair has a free place -/
theorem apart_step (ok : PoolOk caps hs m) (ap : Apart caps hs) {T : Nat → Bool} (h : IndP caps hs T) {p : Nat} (hp : p < hs.length) (hT : T p = false) :
    IndP caps hs (ins T p) ↔ ((cnt hs.length fun n => T n && decide (pairAt hs n = pairAt hs p) : Nat) : Int) < roomOf caps (pairAt hs p) := by
  have c := cnt_ins (U := fun n => decide (pairAt hs n = pairAt hs p)) hp hT (decide_eq_true rfl)
  rw [ind_apart ok ap]
  constructor
  · intro h
    have := h p hp (ins_iff.mpr (.inr rfl))
    omega
  · intro h1 q hq z
    by_cases e : pairAt hs q = pairAt hs p
    · rw [e]
      omega
    · have hTq : T q = true := by
        rcases ins_iff.mp z with y | y
        · exact y
        · rw [y] at e; exact absurd rfl e
      have := (ind_apart ok ap T).mp h q hq hTq
      rw [cnt_congr (g := fun n => T n && decide (pairAt hs n = pairAt hs q)) fun i hi => ?_]
      · exact this
      · rw [Bool.eq_iff_iff, Bool.and_eq_true, Bool.and_eq_true, decide_eq_true_eq]
        constructor
        · rintro ⟨h3, h4⟩
          rcases ins_iff.mp h3 with y | y
          · exact ⟨y, h4⟩
          · rw [y] at h4; exact absurd h4.symm e
        · rintro ⟨h3, h4⟩; exact ⟨ins_iff.mpr (.inl h3), h4⟩
end
end Zu
end

section
set_option Elab.async false
set_option linter.all false
set_option maxRecDepth 100000
set_option maxHeartbeats 4000000
/-! Pools whose pieces have just a pair each. -/
namespace Y
open PySem L2 Zk Zc Zsl
local macro_rules | `(tactic| walk_at "zs") => `(tactic| simp only [beq_self_eq_true, Bool.or_false, Bool.false_or, Bool.true_or, Bool.or_true, Bool.and_false, Bool.false_and, Bool.true_and, Bool.and_true, Zc.isi_ii, Zc.isi_ib, Zc.isi_tt, Zc.isi_ll, Zc.rowsT_len, Zc.rowsL_len, Zc.is_integer_call, Zc.ix_p0, Zc.ix_p1, dgTup2_a, dgTup3_a, Bool.not_true, Bool.not_false, mul_lz, List.flatten_cons, List.flatten_nil, Int.reduceToNat, add_ll, pow10_12, pow10_18, pow10_39, pow10_41, pow10_59, pow10_60, mkLst_some, mkTup_some, List.length_cons, List.length_nil, Nat.zero_le, Nat.reduceAdd, Nat.reduceLeDiff, call1, callO1, call2, callO2, call3, callO3, call4, callO4, call5, callO5, call6, callO6, ap1_some, ap2_some, apN_some, apC_some, d1_a, d2_a, dN_a, aNil_a, aCons_a, dC_a, dVar_z, dVar_s, tDt_a, apAnd_t, apAnd_f, apOr_t, apOr_f, dAndT_a, dOrT_a, apNot_some, dNotT_a, apAndV_t, apAndV_f, dAndV_a, apOrV_t, apOrV_f, dOrV_a, apIf_t, apIf_f, dIf_a, apCh_t, apCh_f, apChain_some, dChain_a, apSeq_nx, apSeq_rt, apSeq_ct, apSeq_bk, sSeq_a, apIfS_t, apIfS_f, sIf_a, sNext_a, sCont_a, sBreak_a, apRet_some, sRet_a, apRetO_some, sRetO_a, sRetN_a, getO_z, getO_s, apRetV_some, sRetV_a, ltB_z, ltB_s, okSlot_s, apAsg_some, sAsg_a, dName_ok, apG_some, dgCons_a, dgNil_a, apAsgO_some, sAsgO_a, sApp_a, sSetI_a, apFor_some, sFor_a, dItems_a, dRng1_a, dRng2_a, apEn_some, apEn_tup, dEnum_a, sFrz_a, frzs_nil, frzs_cons, frzI_o, frzI_v, frzI_n, frzI_s, frz1_s, frzAll_nil, frzAll_o, frzAll_v, frzAll_n, peekT_a, apPk_int, apPk_bl, apPk_str, apPk_non, peekF_a, dCall_a, toO_o, dCallO_a, dMake_a, Wd_v, Wd_o, dSl_a, apSl_some, oNone_a, oSome_a, apO_some, add_ii, sub_ii, lt_ii, le_ii, gt_ii, ge_ii, eq_ii, ne_ii, neg_i, not_b, bl_b, tru_b, tru_i, tru_l, tru_t, tru_n, len_l, len_t, len_scr, abs_i, int_i, list_l, list_t, tuple_l, tuple_t, min_ii, max_ii, rev_l, items_l, items_t, iL_len, run_a, outW_rt, outW_nx, List.map_cons, List.map_nil, List.replicate, List.append_nil, List.cons_append, List.nil_append, List.set_cons_zero, List.set_cons_succ, Option.map_some])
local macro_rules | `(tactic| walk_at "zd") => `(tactic| first | ((with_reducible show okSlot _ _ = true); simp only [okSlot_s, ltB_z, ltB_s]; done) | omega | assumption | decide | (simp only [List.length_map, List.length_append, List.length_cons, List.length_nil, List.length_range, List.length_set, List.length_reverse, iL_len, Zc.rowsT_len, Zc.rowsL_len] at *; omega))
local macro_rules | `(tactic| walk_at "zz") => `(tactic| simp (disch := walk_at "zd") only [dgTup2_a, dgTup3_a, Bool.not_true, Bool.not_false, mul_lz, List.flatten_cons, List.flatten_nil, Int.reduceToNat, add_ll, pow10_12, pow10_18, pow10_39, pow10_41, pow10_59, pow10_60, mkLst_some, mkTup_some, List.length_cons, List.length_nil, Nat.zero_le, Nat.reduceAdd, Nat.reduceLeDiff, call1, callO1, call2, callO2, call3, callO3, call4, callO4, call5, callO5, call6, callO6, ap1_some, ap2_some, apN_some, apC_some, d1_a, d2_a, dN_a, aNil_a, aCons_a, dC_a, dVar_z, dVar_s, tDt_a, apAnd_t, apAnd_f, apOr_t, apOr_f, dAndT_a, dOrT_a, apNot_some, dNotT_a, apAndV_t, apAndV_f, dAndV_a, apOrV_t, apOrV_f, dOrV_a, apIf_t, apIf_f, dIf_a, apCh_t, apCh_f, apChain_some, dChain_a, apSeq_nx, apSeq_rt, apSeq_ct, apSeq_bk, sSeq_a, apIfS_t, apIfS_f, sIf_a, sNext_a, sCont_a, sBreak_a, apRet_some, sRet_a, apRetO_some, sRetO_a, sRetN_a, getO_z, getO_s, apRetV_some, sRetV_a, ltB_z, ltB_s, okSlot_s, apAsg_some, sAsg_a, dName_ok, apG_some, dgCons_a, dgNil_a, apAsgO_some, sAsgO_a, sApp_a, sSetI_a, apFor_some, sFor_a, dItems_a, dRng1_a, dRng2_a, apEn_some, apEn_tup, dEnum_a, sFrz_a, frzs_nil, frzs_cons, frzI_o, frzI_v, frzI_n, frzI_s, frz1_s, frzAll_nil, frzAll_o, frzAll_v, frzAll_n, peekT_a, apPk_int, apPk_bl, apPk_str, apPk_non, peekF_a, dCall_a, toO_o, dCallO_a, dMake_a, Wd_v, Wd_o, dSl_a, apSl_some, oNone_a, oSome_a, apO_some, add_ii, sub_ii, lt_ii, le_ii, gt_ii, ge_ii, eq_ii, ne_ii, neg_i, not_b, bl_b, tru_b, tru_i, tru_l, tru_t, tru_n, len_l, len_t, len_scr, abs_i, int_i, list_l, list_t, tuple_l, tuple_t, min_ii, max_ii, rev_l, items_l, items_t, iL_len, run_a, outW_rt, outW_nx, List.map_cons, List.map_nil, List.replicate, List.append_nil, List.cons_append, List.nil_append, List.set_cons_zero, List.set_cons_succ, Option.map_some, Int.reduceAdd, Int.reduceMul, Int.reduceSub, Int.reduceNeg, beq_self_eq_true, Bool.or_false, Bool.false_or, Bool.true_or, Bool.or_true, Bool.and_false, Bool.false_and, Bool.true_and, Bool.and_true, Zc.isi_ii, Zc.isi_ib, Zc.isi_tt, Zc.isi_ll, Zc.rowsT_len, Zc.rowsL_len, Zc.is_integer_call, Zc.ix_p0, Zc.ix_p1, apR1_any, Int.toNat_natCast, apR2_some, mod_ii, fdiv_ii, mul_small, apApp_some, ix_at, ix_atT, ix_atI, ix_atIT, ix_atR, ix_atRT, List.length_map, List.length_append, List.length_range, List.length_set, Option.map_none, Option.map_map, decide_true, decide_false, peekO_a, apPkO_i, frz_wo, frz_wv, frz_kk, wipeG_nil, wipeG_cons, orB_s, orB_t, orB_f, andB_s, andB_t, andB_f, orV_s, orV_t, orV_f, andV_s, andV_t, andV_f, apOr_b, apAnd_b, apOrV_b, apAndV_b, apCh_b, Zc.cut_from, Zc.cut_to, in_l, in_t, in_pr, eq_op_op, eq_op_pr, eq_pr_op, eq_pr_pr, ne_op_op, ne_op_pr, ne_pr_op, ne_pr_pr, isnt_op, is_op, pr_0, pr_1, st_0, st_1, inP_pr, ninP_pr, nin_l, isi_prt, len_pr, op_some, prD_eq, ix_lit2, ix_lit3, ix_lit4, ix_lit5, ix_lit6, ix_lit7, ix_lit8, ix_lit9, ix_lit10, ix_lit11, ix_lit12, ix_lit13, ix_lit14, ix_lit15, setI_i, setI_p, setI_o, setI_n, snoc_i, snoc_r, snoc_p, snoc_n, snoc_o, snoc_pp, snoc_s, eq_ol, ne_ol, eq_pl, ne_pl, eq_sl, ne_sl, eq_il, ne_il, eq_rl, ne_rl, eq_il1, isi_bb, eq_bb, ne_bb, eq_self, isi_call, Int.reduceBEq, Bool.not_true, Bool.not_false, if_true])
local macro_rules | `(tactic| walk_at "zf") => `(tactic| first | (walk_at "zz"; done) | (walk_at "zz"; rfl) | rfl)
local macro_rules | `(tactic| walk_at "lc") => `(tactic| ((case hf => rfl); (case hi => first | (walk_at "zz"; done) | (walk_at "zz"; rfl) | rfl); (case hl => walk_at "zd"); (case h => (intro a ha; refine ⟨_, dName_ok rfl, ?_, fun hT => ?_⟩ <;> walk_at "zz" <;> rfl))))
local macro_rules | `(tactic| walk_at "lm") => `(tactic| ((case hf => rfl); (case hi => first | (walk_at "zz"; done) | (walk_at "zz"; rfl) | rfl); (case hl => walk_at "zd"); (case h => (intro a ha; refine ⟨_, dName_ok rfl, ?_⟩; walk_at "zz"; rfl))))
variable {caps : List Int} {hs : List (List Int)} {m : Nat}
def rowsOf (ps : List (Int × Int)) : List (List Int) := ps.map fun p => [p.1, p.2]
theorem apart_spec (c0 : Int) : ∃ caps hs, g_law_apart [.int c0] = some (.v (.tup [.lst (iL caps), .lst (rowsL hs)])) ∧ PoolOk caps hs 17 ∧ Zu.Apart caps hs := by
  obtain ⟨w, e, ds, rfl, hb⟩ := Zc.draws_spec c0 (3 :: 8 :: (List.replicate 4 4 ++ List.replicate 17 60)) (by intro s hs; simp at hs; omega) (by simp)
  have hdl : ds.length = 23 := by rw [hb.len]; rfl
  have d0 := hb.at (k := 0) 3 (by decide) rfl
  have d1 := hb.at (k := 1) 8 (by decide) rfl
  have dc : ∀ i : Nat, i < 4 → 0 ≤ at_ ds (2 + (i : Int)) ∧ at_ ds (2 + (i : Int)) < 4 := fun i hi => hb.at 4 (by omega) (by
    match i, hi with
    | 0, _ => rfl
    | 1, _ => rfl
    | 2, _ => rfl
    | 3, _ => rfl)
  have dp : ∀ i : Nat, i < 17 → 0 ≤ at_ ds (6 + (i : Int)) ∧ at_ ds (6 + (i : Int)) < 60 := fun i hi => hb.at 60 (by omega) (by
    rw [show (6 + (i : Int)).toNat = 6 + i by omega, show 3 :: 8 :: (List.replicate 4 4 ++ List.replicate 17 60) = [3, 8, 4, 4, 4, 4] ++ List.replicate 17 (60 : Int) from rfl, List.getElem?_append_right (by simp), List.getElem?_replicate, if_pos (by simp; omega)])
  replace e : Zc.g_law_draws [.int c0, .lst [.int 3, .int 8, .int 4, .int 4, .int 4, .int 4, .int 60, .int 60, .int 60, .int 60, .int 60, .int 60, .int 60, .int 60, .int 60, .int 60, .int 60, .int 60, .int 60, .int 60, .int 60, .int 60, .int 60]] = some (.o (.lst (iL ds))) := e
  unfold g_law_apart t_law_apart
  walk_at "zz"
  rw [e_law_draws, e]
  walk_at "zz"
  obtain ⟨n, hn⟩ : ∃ n : Nat, 2 + at_ ds 0 = (n : Int) := ⟨(2 + at_ ds 0).toNat, by omega⟩
  rw [hn, e_law_pairs, pairs_spec n (by omega)]
  walk_at "zz"
  rewrite [dLc_rngM (n := n) (F := fun i => D.int (1 + at_ ds (2 + (i : Int))))]
  case hf => rfl
  case hi => walk_at "zz"
  case hl => omega
  case h =>
    intro i hi
    refine ⟨_, dName_ok rfl, ?_⟩
    walk_at "zz"
  rw [map_int, pairsP_prD]
  have hcl : ((List.range n).map fun i : Nat => 1 + at_ ds (2 + (i : Int))).length = n := by rw [List.length_map, List.length_range]
  have hcb : ∀ x ∈ ((List.range n).map fun i : Nat => 1 + at_ ds (2 + (i : Int))), 1 ≤ x ∧ x ≤ 4 := fun x hx => by
    obtain ⟨i, hi, rfl⟩ := List.mem_map.mp hx
    have := dc i (by have := List.mem_range.mp hi; omega)
    omega
  generalize ((List.range n).map fun i : Nat => 1 + at_ ds (2 + (i : Int))) = caps at hcl hcb ⊢
  have hpp : ∀ q ∈ pairsP n, 0 ≤ q.1 ∧ q.1 < q.2 ∧ q.2 < (n : Int) := fun q hq => pairsP_mem.mp hq
  have hp0 : 0 < (pairsP n).length := List.length_pos_of_mem (a := ((0 : Int), (1 : Int))) (pairsP_mem.mpr (by dsimp only; omega))
  have hpl : (pairsP n).length ≤ 100 := by
    have h1 : (pairsL n).length ≤ n * n := flat_len n n
    have h2 : n * n ≤ 4 * 4 := Nat.mul_le_mul (by omega) (by omega)
    rw [pairsP_prD, List.length_map] at h1
    omega
  generalize pairsP n = P at *
  walk_at "zz"
  refine rng_then (C := fun o => ∃ caps hs, outW o = some (.v (.tup [.lst (iL caps), .lst (rowsL hs)])) ∧ PoolOk caps hs 17 ∧ Zu.Apart caps hs) (fun i g => ∃ (hs : List (List Int)) (k6 : Option D), g = [some (.v (.int c0)), some (.v (.lst (iL ds))), some (.v (.int (n : Int))), some (.v (.lst (P.map prD))), some (.v (.lst (iL caps))), some (.o (.lst (rowsL hs))), k6.map Wd.v, none] ∧ hs.length = i ∧ ∀ h ∈ hs, ∃ a b : Int, h = [a, b] ∧ 0 ≤ a ∧ a < b ∧ b < (n : Int)) ⟨[], none, rfl, rfl, fun h z => by cases z⟩ ?_ ?_ ?_
  · rintro i g ⟨hs, k6, rfl, _⟩
    rfl
  · rintro i g hi ⟨hs, k6, rfl, hl, hh⟩
    have di := dp i (by omega)
    have m0 := Int.emod_nonneg (at_ ds (6 + (i : Int))) (b := (P.length : Int)) (by omega)
    have m1 := Int.emod_lt_of_pos (at_ ds (6 + (i : Int))) (b := (P.length : Int)) (by omega)
    have hq := hpp _ (at_mem (xs := P) m0 m1)
    show StepTo (sApp _ _ [some (.v (.int c0)), some (.v (.lst (iL ds))), some (.v (.int (n : Int))), some (.v (.lst (P.map prD))), some (.v (.lst (iL caps))), some (.o (.lst (rowsL hs))), some (.v (.int (i : Int))), none]) _
    have hl6 : (rowsL hs).length < 100000 := by rw [rowsL_len]; omega
    walk_at "zz"
    generalize at_ P (at_ ds (6 + (i : Int)) % (P.length : Int)) = q at hq
    rw [show listD [prD q] = some (.lst (iL [q.1, q.2])) from rfl]
    walk_at "zz"
    refine step_nx ⟨hs ++ [[q.1, q.2]], some (.int (i : Int)), by rw [← rowsL_snoc]; rfl, by rw [List.length_append, hl]; rfl, fun h hm => ?_⟩
    rcases List.mem_append.mp hm with z | z
    · exact hh h z
    · exact ⟨q.1, q.2, List.mem_singleton.mp z, hq.1, hq.2.1, hq.2.2⟩
  · rintro g ⟨hs, k6, rfl, hl, hh⟩
    walk_at "zz"
    refine ⟨caps, hs, rfl, ⟨by omega, by omega, fun x hx => by have := hcb x hx; omega, by omega, fun h hm => ?_⟩, fun x hx => (hcb x hx).1, fun h hm => ?_⟩
    · obtain ⟨a, b, rfl, h1, h2, h3⟩ := hh h hm
      exact ⟨by simp; exact h2, fun k hk => by simp at hk; omega⟩
    · obtain ⟨a, b, e, _⟩ := hh h hm
      exact ⟨a, b, e⟩
theorem srt_pick {n : Nat} {T : Nat → Bool} {L : List Int} (hn : L.Nodup) (hm : ∀ x, x ∈ L ↔ x ∈ pickI n T) : srt L = pickI n T := by
  have ha := pickI_asc n T
  have hp : L.Perm (pickI n T) := (List.perm_ext_iff_of_nodup hn ha.nodup).mpr hm
  refine List.Perm.eq_of_pairwise (le := fun a b : Int => a ≤ b) (fun a b _ _ h1 h2 => by omega) (srt_le L) (ha.1.imp fun h => by omega) ((srt_perm L).trans hp)
theorem shDs_iL : ∀ xs : List Int, Zg.shDs (iL xs) = true
  | [] => rfl
  | x :: xs => shDs_iL xs
theorem peekN_at {a : DF} {g : Gm} {ds : List D} (h : a (frzAll g) = some (.lst ds)) (hs : Zg.shDs ds = true) : Zq5.peekN a g = some (.lst ds) := by
  unfold Zq5.peekN
  rw [h]
  show (if Zg.shDs ds = true then some (D.lst ds) else none) = _
  rw [if_pos hs]
theorem frz_mv {k : Option D} : (k.map Wd.v).map Wd.frz = k.map Wd.v := by cases k <;> rfl
theorem collected_apart_spec (ok : PoolOk caps hs m) (hm : m ≤ 60) (ap : Zu.Apart caps hs) {ws R : List Int} (hl : ws.length = hs.length) (hR : Zu.Row ws R ws.length) : g_law_collected_apart [.lst (iL caps), .lst (rowsL hs), .lst (iL ws)] = some (.v (.lst (iL (lotG caps hs R)))) := by
  have hpm := ok.pm
  have h12 := ok.s12
  obtain ⟨R', e, hR'⟩ := order_spec (ws := ws) (by omega)
  obtain rfl := Zu.row_one hR hR'
  unfold g_law_collected_apart t_law_collected_apart
  walk_at "zz"
  rw [e]
  walk_at "zz"
  refine loop_each (C := fun o => outW o = _) D.int R (fun i g => ∃ (L : List Int) (k4 k5 : Option D), g = [some (.v (.lst (iL caps))), some (.v (.lst (rowsL hs))), some (.v (.lst (iL ws))), some (.o (.lst (iL L))), k4.map Wd.v, k5.map Wd.v, none] ∧ L.Nodup ∧ ∀ x, x ∈ L ↔ x ∈ pickI hs.length ((R.take i).foldl (Zu.gstep (Zu.IndP caps hs)) fun _ => false)) ⟨[], none, none, rfl, List.nodup_nil, fun x => by rw [pickI_mem]; simp⟩ ?_ ?_
  · rintro i p g hi ⟨L, k4, k5, rfl, hn, hm'⟩
    have hp := hR.mem p (List.mem_of_getElem? hi)
    obtain ⟨n, rfl⟩ : ∃ n : Nat, p = (n : Int) := ⟨p.toNat, by omega⟩
    have hnl : n < hs.length := by omega
    have hT := Row.fresh hR (I := Zu.IndP caps hs) hi
    have hI : Zu.IndP caps hs ((R.take i).foldl (Zu.gstep (Zu.IndP caps hs)) fun _ => false) := Zu.gfold_ind _ _ ⟨_, Zu.deals_nil⟩
    rw [gfold_next hi]
    generalize ((R.take i).foldl (Zu.gstep (Zu.IndP caps hs)) fun _ => false) = T at hT hm' hI ⊢
    have step := Zu.apart_step ok ap hI hnl hT
    have hLr : ∀ x ∈ L, 0 ≤ x ∧ x < (hs.length : Int) := fun x hx => by
      obtain ⟨j, rfl, hj, _⟩ := pickI_mem.mp ((hm' x).mp hx)
      omega
    have hold : Hold hs.length L := ⟨hn, hLr⟩
    have hLl := hold.len
    have a := ap.at ok hnl
    have len : (L.filter fun q => decide (at_ hs q = at_ hs (n : Int))).length = Zu.cnt hs.length fun j => T j && decide (Zu.pairAt hs j = Zu.pairAt hs n) := by
      have hpq : (L.filter fun q => decide (at_ hs q = at_ hs (n : Int))).Perm ((pickI hs.length T).filter fun q => decide (at_ hs q = at_ hs (n : Int))) := ((List.perm_ext_iff_of_nodup hn (pickI_asc _ _).nodup).mpr hm').filter _
      rw [hpq.length_eq, pick_filt]
      refine Zu.cnt_congr fun j hj => ?_
      have b := ap.at ok hj
      congr 1
      refine decide_eq_decide.mpr ?_
      rw [a.1, b.1]
      constructor
      · intro z
        simp at z
        exact Prod.ext z.1 z.2
      · intro z; rw [z]
    refine ⟨_, dName_ok rfl, ?_⟩
    show StepTo (sSeq _ _ [some (.v (.lst (iL caps))), some (.v (.lst (rowsL hs))), some (.v (.lst (iL ws))), some (.o (.lst (iL L))), some (.v (.int (n : Int))), k5.map Wd.v, none]) _
    walk_at "zz"
    have pk : dLc (dItems (dVar 3)) (dName 6) (tDt blD (d2 eqD (d2 ixD (dVar 1) (dVar 6)) (d2 ixD (dVar 1) (dVar 4)))) (dVar 6) [6] (frzAll [some (.v (.lst (iL caps))), some (.v (.lst (rowsL hs))), some (.v (.lst (iL ws))), some (.o (.lst (iL L))), some (.v (.int (n : Int))), k5.map Wd.v, none]) = some (.lst (iL (L.filter fun q => decide (at_ hs q = at_ hs (n : Int))))) := by
      show dLc _ _ _ _ _ [some (.v (.lst (iL caps))), some (.v (.lst (rowsL hs))), some (.v (.lst (iL ws))), some (.v (.lst (iL L))), some (.v (.int (n : Int))), (k5.map Wd.v).map Wd.frz, none] = _
      rw [frz_mv]
      rewrite [dLc_filt D.int (xs := L) (T := fun q => decide (at_ hs q = at_ hs (n : Int))) (F := D.int)]
      case hf => cases k5 <;> rfl
      case hi => walk_at "zz"; rfl
      case hl => omega
      case h =>
        intro q hq
        have := hLr q hq
        refine ⟨_, dName_ok rfl, ?_, fun _ => ?_⟩
        · walk_at "zz"
        · walk_at "zz"
      rfl
    rw [peekN_at pk (shDs_iL _)]
    clear pk
    generalize (L.filter fun q => decide (at_ hs q = at_ hs (n : Int))) = F at len ⊢
    walk_at "zz"
    rw [a.1]
    obtain ⟨⟨b0, b1, b2⟩, b3⟩ := a.2
    rw [show ixD (.lst (iL [(Zu.pairAt hs n).1, (Zu.pairAt hs n).2])) (.int 0) = some (.int (Zu.pairAt hs n).1) from rfl, show ixD (.lst (iL [(Zu.pairAt hs n).1, (Zu.pairAt hs n).2])) (.int 1) = some (.int (Zu.pairAt hs n).2) from rfl]
    have hLi : (iL L).length < 100000 := by rw [iL_len]; omega
    rw [← len] at step
    unfold roomOf at step
    have ca : ∀ k : Int, Zc.capAt caps k = at_ caps k := fun _ => rfl
    rw [ca, ca] at step
    generalize Zu.pairAt hs n = q at b0 b1 b2 step ⊢
    walk_at "zz"
    by_cases hB : Zu.IndP caps hs (Zu.ins T n)
    · rw [decide_eq_true (step.mp hB)]
      walk_at "zz"
      refine step_nx ⟨L ++ [(n : Int)], some (.int (n : Int)), some (.lst (iL F)), by rw [show iL (L ++ [(n : Int)]) = iL L ++ [D.int (n : Int)] from by unfold iL; rw [List.map_append]; rfl]; rfl, List.nodup_append.mpr ⟨hn, List.pairwise_singleton _ _, fun x hx y hy => ?_⟩, fun x => ?_⟩
      · rw [List.mem_singleton.mp hy]
        rintro rfl
        obtain ⟨j, e, _, h2⟩ := pickI_mem.mp ((hm' _).mp hx)
        rw [show j = n by omega, hT] at h2
        cases h2
      · rw [Zu.gstep_yes hB, List.mem_append, hm' x, pickI_mem, pickI_mem, List.mem_singleton, Int.toNat_natCast]
        constructor
        · rintro (⟨j, e, h1, h2⟩ | e)
          · exact ⟨j, e, h1, Zu.ins_iff.mpr (.inl h2)⟩
          · exact ⟨n, e, hnl, Zu.ins_iff.mpr (.inr rfl)⟩
        · rintro ⟨j, e, h1, h2⟩
          rcases Zu.ins_iff.mp h2 with z | z
          · exact .inl ⟨j, e, h1, z⟩
          · exact .inr (by rw [e, z])
    · rw [decide_eq_false (fun z => hB (step.mpr z))]
      walk_at "zz"
      refine step_nx ⟨L, some (.int (n : Int)), some (.lst (iL F)), rfl, hn, ?_⟩
      rw [Zu.gstep_no hB]
      exact hm'
  · rintro g ⟨L, k4, k5, rfl, hn, hm'⟩
    rw [List.take_of_length_le (Nat.le_refl _)] at hm'
    walk_at "zz"
    rw [srt_l, srt_pick hn hm']
    walk_at "zz"
    rfl
end Y
end

section
set_option Elab.async false
set_option linter.all false
set_option maxRecDepth 100000
set_option maxHeartbeats 2000000
/-! Pools side by side. -/
namespace Zu
open PySem L2 Zk Zc Zsl
theorem cnt_inj {m N : Nat} {A B : Nat → Bool} (f : Nat → Nat) (h : ∀ p, p < m → A p = true → f p < N ∧ B (f p) = true) (inj : ∀ p p', p < m → p' < m → A p = true → A p' = true → f p = f p' → p = p') : cnt m A ≤ cnt N B := by
  rw [cnt_filter, cnt_filter]
  have hm : ∀ p, p ∈ (List.range m).filter A → p < m ∧ A p = true := fun p hp => by
    rw [List.mem_filter, List.mem_range] at hp; exact hp
  have nd : (((List.range m).filter A).map f).Nodup := List.pairwise_map.mpr (List.Pairwise.imp_of_mem (fun {a b} ha hb hab e => hab (inj a b (hm a ha).1 (hm b hb).1 (hm a ha).2 (hm b hb).2 e)) (List.nodup_range.sublist List.filter_sublist))
  have := nodup_sub nd (l2 := (List.range N).filter B) fun x hx => by
    obtain ⟨p, hp, rfl⟩ := List.mem_map.mp hx
    have := h p (hm p hp).1 (hm p hp).2
    rw [List.mem_filter, List.mem_range]
    exact this
  rw [List.length_map] at this
  exact this
def inv (ow : Nat → Nat × Nat) (N g p : Nat) : Nat := ((List.range N).find? fun q => decide (ow q = (g, p))).getD 0
structure Join (C : List Int) (hs : List (List Int)) (c : Nat → List Int) (h : Nat → List (List Int)) (s : Nat → Int) (ow : Nat → Nat × Nat) : Prop where
  rg : ∀ q, q < hs.length → (ow q).1 < 2 ∧ (ow q).2 < (h (ow q).1).length ∧ at_ hs (q : Int) = (at_ (h (ow q).1) ((ow q).2 : Int)).map fun k => k + s (ow q).1
  sur : ∀ g, g < 2 → ∀ p, p < (h g).length → ∃ q, q < hs.length ∧ ow q = (g, p)
  inj : ∀ q q', q < hs.length → q' < hs.length → ow q = ow q' → q = q'
  mono : ∀ q q', q < q' → q' < hs.length → (ow q).1 = (ow q').1 → (ow q).2 < (ow q').2
  cap : ∀ g, g < 2 → ∀ k : Int, 0 ≤ k → k < ((c g).length : Int) → 0 ≤ k + s g ∧ k + s g < (C.length : Int) ∧ capAt C (k + s g) = capAt (c g) k
  sep : ∀ g g', g < 2 → g' < 2 → ∀ k k' : Int, 0 ≤ k → k < ((c g).length : Int) → 0 ≤ k' → k' < ((c g').length : Int) → k + s g = k' + s g' → g = g'
section
variable {C : List Int} {hs : List (List Int)} {c : Nat → List Int} {h : Nat → List (List Int)} {s : Nat → Int} {ow : Nat → Nat × Nat} {m M : Nat}
theorem Join.inv (J : Join C hs c h s ow) {g p : Nat} (hg : g < 2) (hp : p < (h g).length) : inv ow hs.length g p < hs.length ∧ ow (inv ow hs.length g p) = (g, p) := by
  obtain ⟨q, h1, h2⟩ := J.sur g hg p hp
  unfold Zu.inv
  cases e : (List.range hs.length).find? fun q => decide (ow q = (g, p)) with
  | none => exact absurd (List.find?_eq_none.mp e q (List.mem_range.mpr h1)) (by simp [h2])
  | some r =>
    have y : decide (ow r = (g, p)) = true := List.find?_some (p := fun q => decide (ow q = (g, p))) e
    exact ⟨List.mem_range.mp (List.mem_of_find?_eq_some e), of_decide_eq_true y⟩
theorem Join.back (J : Join C hs c h s ow) {q : Nat} (hq : q < hs.length) : Zu.inv ow hs.length (ow q).1 (ow q).2 = q := by
  obtain ⟨h1, h2, _⟩ := J.rg q hq
  obtain ⟨h3, h4⟩ := J.inv h1 h2
  exact J.inj _ _ h3 hq h4
def up (s : Int) (q : Pr) : Pr := (q.1 + s, q.2 + s)
def down (s : Int) (q : Pr) : Pr := (q.1 - s, q.2 - s)
theorem Join.held (J : Join C hs c h s ow) (ok : PoolOk C hs M) (okg : ∀ g, g < 2 → PoolOk (c g) (h g) m) {n : Nat} (hn : n < hs.length) (q : Pr) :
    q ∈ heldP C (at_ hs (n : Int)) ↔ down (s (ow n).1) q ∈ heldP (c (ow n).1) (at_ (h (ow n).1) ((ow n).2 : Int)) := by
  obtain ⟨h1, h2, h3⟩ := J.rg n hn
  have a1 := ok.asc _ (at_mem (xs := hs) (k := (n : Int)) (by omega) (by omega))
  have a2 := (okg _ h1).asc _ (at_mem (xs := h (ow n).1) (k := ((ow n).2 : Int)) (by omega) (by omega))
  rw [heldP_mem a1, heldP_mem a2, h3]
  have mem : ∀ k : Int, k ∈ (at_ (h (ow n).1) ((ow n).2 : Int)).map (fun k => k + s (ow n).1) ↔ k - s (ow n).1 ∈ at_ (h (ow n).1) ((ow n).2 : Int) := fun k => by
    rw [List.mem_map]
    constructor
    · rintro ⟨j, hj, rfl⟩; rw [show j + s (ow n).1 - s (ow n).1 = j by omega]; exact hj
    · exact fun hk => ⟨_, hk, by omega⟩
  rw [mem, mem]
  unfold down
  have room : q.1 - s (ow n).1 ∈ at_ (h (ow n).1) ((ow n).2 : Int) → q.2 - s (ow n).1 ∈ at_ (h (ow n).1) ((ow n).2 : Int) → roomOf C q = roomOf (c (ow n).1) (q.1 - s (ow n).1, q.2 - s (ow n).1) := fun x y => by
    have c1 := (J.cap _ h1 _ (a2.2 _ x).1 (a2.2 _ x).2).2.2
    have c2 := (J.cap _ h1 _ (a2.2 _ y).1 (a2.2 _ y).2).2.2
    rw [show q.1 - s (ow n).1 + s (ow n).1 = q.1 by omega] at c1
    rw [show q.2 - s (ow n).1 + s (ow n).1 = q.2 by omega] at c2
    unfold roomOf
    dsimp only
    rw [c1, c2]
  constructor
  · rintro ⟨x, y, z, w⟩
    exact ⟨x, y, by dsimp only; omega, by rw [← room x y]; exact w⟩
  · rintro ⟨x, y, z, w⟩
    exact ⟨x, y, by dsimp only at z; omega, by rw [room x y]; exact w⟩
theorem Join.room (J : Join C hs c h s ow) (ok : PoolOk C hs M) (okg : ∀ g, g < 2 → PoolOk (c g) (h g) m) {n : Nat} (hn : n < hs.length) {q : Pr} (hq : q ∈ heldP C (at_ hs (n : Int))) :
    roomOf C q = roomOf (c (ow n).1) (down (s (ow n).1) q) ∧ ((0 ≤ q.1 - s (ow n).1 ∧ q.1 - s (ow n).1 < ((c (ow n).1).length : Int)) ∧ (0 ≤ q.2 - s (ow n).1 ∧ q.2 - s (ow n).1 < ((c (ow n).1).length : Int))) := by
  obtain ⟨h1, h2, h3⟩ := J.rg n hn
  have a2 := (okg _ h1).asc _ (at_mem (xs := h (ow n).1) (k := ((ow n).2 : Int)) (by omega) (by omega))
  obtain ⟨x, y, _⟩ := (heldP_mem a2 _).mp ((J.held ok okg hn q).mp hq)
  have x := a2.2 _ x
  have y := a2.2 _ y
  unfold down at x y
  dsimp only at x y
  refine ⟨?_, x, y⟩
  have c1 := (J.cap _ h1 _ x.1 x.2).2.2
  have c2 := (J.cap _ h1 _ y.1 y.2).2.2
  rw [show q.1 - s (ow n).1 + s (ow n).1 = q.1 by omega] at c1
  rw [show q.2 - s (ow n).1 + s (ow n).1 = q.2 by omega] at c2
  unfold roomOf down
  dsimp only
  rw [c1, c2]
theorem ind_join (J : Join C hs c h s ow) (ok : PoolOk C hs M) (okg : ∀ g, g < 2 → PoolOk (c g) (h g) m) (S : Nat → Bool) : IndP C hs S ↔ ∀ g, g < 2 → IndP (c g) (h g) fun p => S (Zu.inv ow hs.length g p) := by
  constructor
  · rintro ⟨dl, dk, on⟩ g hg
    have hl := dk.len
    have iv := fun (p : Nat) (hp : p < (h g).length) => J.inv hg hp
    have get : ∀ p, p < (h g).length → ((List.range (h g).length).map fun p => (at_ dl ((Zu.inv ow hs.length g p : Nat) : Int)).map (down (s g)))[p]? = some ((at_ dl ((Zu.inv ow hs.length g p : Nat) : Int)).map (down (s g))) := fun p hp => by
      rw [List.getElem?_map, List.getElem?_range hp]; rfl
    have hl' : ((List.range (h g).length).map fun p => (at_ dl ((Zu.inv ow hs.length g p : Nat) : Int)).map (down (s g))).length = (h g).length := by rw [List.length_map, List.length_range]
    have hat : ∀ p, p < (h g).length → at_ ((List.range (h g).length).map fun p => (at_ dl ((Zu.inv ow hs.length g p : Nat) : Int)).map (down (s g))) (p : Int) = (at_ dl ((Zu.inv ow hs.length g p : Nat) : Int)).map (down (s g)) := fun p hp => at_eq rfl (get p hp)
    have key : ∀ p, p < (h g).length → ∀ q, at_ dl ((Zu.inv ow hs.length g p : Nat) : Int) = some q → q ∈ heldP C (at_ hs ((Zu.inv ow hs.length g p : Nat) : Int)) := fun p hp q e => by
      obtain ⟨r, h1, h2⟩ := dk.held (Zu.inv ow hs.length g p) q (by rw [Zc.at_of (dl := dl) (by have := (iv p hp).1; omega), e])
      rw [show at_ hs ((Zu.inv ow hs.length g p : Nat) : Int) = r from at_eq rfl h1]
      exact h2
    refine ⟨_, ⟨hl', fun p q e => ?_, fun q => ?_⟩, fun p hp => ?_⟩
    · have hp := (List.getElem?_eq_some_iff.mp e).1
      rw [hl'] at hp
      rw [get p hp] at e
      cases e2 : at_ dl ((Zu.inv ow hs.length g p : Nat) : Int) with
      | none => rw [e2] at e; cases e
      | some q0 =>
        rw [e2] at e
        cases e
        have := (J.held ok okg (iv p hp).1 q0).mp (key p hp q0 e2)
        rw [(iv p hp).2] at this
        exact ⟨_, hs_at hp, this⟩
    · rw [count_dl hl']
      by_cases z : ∃ p, p < (h g).length ∧ at_ ((List.range (h g).length).map fun p => (at_ dl ((Zu.inv ow hs.length g p : Nat) : Int)).map (down (s g))) (p : Int) = some q
      · right
        obtain ⟨p, hp, e⟩ := z
        rw [hat p hp] at e
        cases e2 : at_ dl ((Zu.inv ow hs.length g p : Nat) : Int) with
        | none => rw [e2] at e; cases e
        | some q0 =>
          rw [e2] at e
          cases e
          have k := key p hp q0 e2
          have r := (J.room ok okg (iv p hp).1 k).1
          rw [(iv p hp).2] at r
          have le : cnt (h g).length (fun n => decide (at_ ((List.range (h g).length).map fun p => (at_ dl ((Zu.inv ow hs.length g p : Nat) : Int)).map (down (s g))) (n : Int) = some (down (s g) q0))) ≤ dl.count (some q0) := by
            rw [count_dl hl]
            refine cnt_inj (Zu.inv ow hs.length g) (fun n hn z => ⟨(iv n hn).1, ?_⟩) fun a b ha hb _ _ e => ?_
            · have z := of_decide_eq_true z
              rw [hat n hn] at z
              refine decide_eq_true ?_
              cases e3 : at_ dl ((Zu.inv ow hs.length g n : Nat) : Int) with
              | none => rw [e3] at z; cases z
              | some q1 =>
                rw [e3] at z
                have z : down (s g) q1 = down (s g) q0 := Option.some.inj z
                unfold down at z
                rw [Prod.ext_iff] at z
                dsimp only at z
                rw [show q1 = q0 from Prod.ext (by omega) (by omega)]
            · have := (iv a ha).2
              rw [e, (iv b hb).2] at this
              exact (Prod.ext_iff.mp this).2.symm
          rcases dk.room q0 with y | y
          · have : 0 < dl.count (some q0) := List.count_pos_iff.mpr (by rw [← e2]; exact at_mem (by omega) (by have := (iv p hp).1; omega))
            omega
          · rw [r] at y
            show ((cnt _ _ : Nat) : Int) ≤ roomOf (c g) (down (s g) q0)
            have y : ((dl.count (some q0) : Nat) : Int) ≤ roomOf (c g) (down (s g) q0) := y
            omega
      · left
        have := cnt_mono (n := (h g).length) (f := fun n => decide (at_ ((List.range (h g).length).map fun p => (at_ dl ((Zu.inv ow hs.length g p : Nat) : Int)).map (down (s g))) (n : Int) = some q)) (g := fun _ => false) fun n hn y => absurd ⟨n, hn, of_decide_eq_true y⟩ z
        have h0 : cnt (h g).length (fun _ => false) = 0 := by rw [cnt_filter]; simp
        omega
    · show S _ = true ↔ _
      rw [hat p hp, on _ (iv p hp).1]
      cases at_ dl ((Zu.inv ow hs.length g p : Nat) : Int) with
      | none => simp
      | some q => simp
  · intro hI
    obtain ⟨d0, D0⟩ := hI 0 (by decide)
    obtain ⟨d1, D1⟩ := hI 1 (by decide)
    obtain ⟨d, D⟩ : ∃ d : Nat → List (Option Pr), ∀ g, g < 2 → DealsT (c g) (h g) (fun p => S (Zu.inv ow hs.length g p)) (d g) := ⟨fun g => if g = 0 then d0 else d1, fun g hg => by
      match g, hg with
      | 0, _ => exact D0
      | 1, _ => exact D1⟩
    clear D0 D1 d0 d1 hI
    have get : ∀ n, n < hs.length → ((List.range hs.length).map fun n => (at_ (d (ow n).1) ((ow n).2 : Int)).map (up (s (ow n).1)))[n]? = some ((at_ (d (ow n).1) ((ow n).2 : Int)).map (up (s (ow n).1))) := fun n hn => by
      rw [List.getElem?_map, List.getElem?_range hn]; rfl
    have hl' : ((List.range hs.length).map fun n => (at_ (d (ow n).1) ((ow n).2 : Int)).map (up (s (ow n).1))).length = hs.length := by rw [List.length_map, List.length_range]
    have hat : ∀ n, n < hs.length → at_ ((List.range hs.length).map fun n => (at_ (d (ow n).1) ((ow n).2 : Int)).map (up (s (ow n).1))) (n : Int) = (at_ (d (ow n).1) ((ow n).2 : Int)).map (up (s (ow n).1)) := fun n hn => at_eq rfl (get n hn)
    generalize ((List.range hs.length).map fun n => (at_ (d (ow n).1) ((ow n).2 : Int)).map (up (s (ow n).1))) = dl at get hl' hat
    have du : ∀ (s : Int) (q : Pr), down s (up s q) = q := fun s q => Prod.ext (by show q.1 + s - s = q.1; omega) (by show q.2 + s - s = q.2; omega)
    have key : ∀ n, n < hs.length → ∀ q, at_ dl (n : Int) = some q → q ∈ heldP C (at_ hs (n : Int)) ∧ at_ (d (ow n).1) ((ow n).2 : Int) = some (down (s (ow n).1) q) := fun n hn q e => by
      obtain ⟨h1, h2, h3⟩ := J.rg n hn
      rw [hat n hn] at e
      cases e2 : at_ (d (ow n).1) ((ow n).2 : Int) with
      | none => rw [e2] at e; cases e
      | some q0 =>
        rw [e2] at e
        cases e
        have dk := (D _ h1).dk
        have hl := dk.len
        obtain ⟨r, r1, r2⟩ := dk.held (ow n).2 q0 (by rw [Zc.at_of (dl := d (ow n).1) (by omega), e2])
        refine ⟨(J.held ok okg hn _).mpr ?_, by rw [du]⟩
        rw [du, show at_ (h (ow n).1) ((ow n).2 : Int) = r from at_eq rfl r1]
        exact r2
    refine ⟨dl, ⟨hl', fun n q e => ?_, fun q => ?_⟩, fun n hn => ?_⟩
    · have hn := (List.getElem?_eq_some_iff.mp e).1
      rw [hl'] at hn
      exact ⟨_, hs_at hn, (key n hn q (at_eq rfl e)).1⟩
    · rw [count_dl hl']
      by_cases z : ∃ n, n < hs.length ∧ at_ dl (n : Int) = some q
      · right
        obtain ⟨n, hn, e⟩ := z
        obtain ⟨k1, k2⟩ := key n hn q e
        obtain ⟨r1, r2, r3⟩ := J.room ok okg hn k1
        obtain ⟨h1, h2, h3⟩ := J.rg n hn
        have dk := (D _ h1).dk
        have hl := dk.len
        have le : cnt hs.length (fun n => decide (at_ dl (n : Int) = some q)) ≤ (d (ow n).1).count (some (down (s (ow n).1) q)) := by
          rw [count_dl hl]
          have same : ∀ n', n' < hs.length → at_ dl (n' : Int) = some q → (ow n').1 = (ow n).1 := fun n' hn' e' => by
            obtain ⟨k1', _⟩ := key n' hn' q e'
            obtain ⟨_, r2', _⟩ := J.room ok okg hn' k1'
            exact J.sep _ _ (J.rg n' hn').1 h1 _ _ r2'.1 r2'.2 r2.1 r2.2 (by omega)
          refine cnt_inj (fun n' => (ow n').2) (fun n' hn' z => ?_) fun a b ha hb za zb e => ?_
          · have z := of_decide_eq_true z
            have sm := same n' hn' z
            obtain ⟨_, k2'⟩ := key n' hn' q z
            have g2 := (J.rg n' hn').2.1
            rw [sm] at k2' g2
            exact ⟨g2, decide_eq_true k2'⟩
          · have sa := same a ha (of_decide_eq_true za)
            have sb := same b hb (of_decide_eq_true zb)
            exact J.inj a b ha hb (Prod.ext (sa.trans sb.symm) e)
        rcases dk.room (down (s (ow n).1) q) with y | y
        · have : 0 < (d (ow n).1).count (some (down (s (ow n).1) q)) := List.count_pos_iff.mpr (by rw [← k2]; exact at_mem (by omega) (by omega))
          omega
        · omega
      · left
        have := cnt_mono (n := hs.length) (f := fun n => decide (at_ dl (n : Int) = some q)) (g := fun _ => false) fun n hn y => absurd ⟨n, hn, of_decide_eq_true y⟩ z
        have h0 : cnt hs.length (fun _ => false) = 0 := by rw [cnt_filter]; simp
        omega
    · obtain ⟨h1, h2, h3⟩ := J.rg n hn
      have := (D _ h1).on _ h2
      rw [J.back hn] at this
      rw [this, hat n hn]
      cases at_ (d (ow n).1) ((ow n).2 : Int) with
      | none => simp
      | some q => simp
end
end Zu
end

section
set_option Elab.async false
set_option linter.all false
set_option maxRecDepth 100000
set_option maxHeartbeats 2000000
/-! Greedily in pools side by side. -/
namespace Zu
open PySem L2 Zk Zc Zsl
section
variable {C : List Int} {hs : List (List Int)} {c : Nat → List Int} {h : Nat → List (List Int)} {s : Nat → Int} {ow : Nat → Nat × Nat} {m M : Nat}
theorem ind_congr {caps : List Int} {hs : List (List Int)} {S T : Nat → Bool} (e : ∀ n, n < hs.length → S n = T n) : IndP caps hs S ↔ IndP caps hs T :=
  ⟨fun z => ind_sub z fun n hn y => by rw [e n hn]; exact y, fun z => ind_sub z fun n hn y => by rw [← e n hn]; exact y⟩
/-- one group's part of an order -/
def part (ow : Nat → Nat × Nat) (g : Nat) (R : List Int) : List Int := (R.filter fun x => decide ((ow x.toNat).1 = g)).map fun x => ((ow x.toNat).2 : Int)
theorem part_yes {g : Nat} {x : Int} {R : List Int} (hx : (ow x.toNat).1 = g) : part ow g (x :: R) = ((ow x.toNat).2 : Int) :: part ow g R := by
  unfold part
  rw [List.filter_cons, if_pos (decide_eq_true hx), List.map_cons]
theorem part_no {g : Nat} {x : Int} {R : List Int} (hx : (ow x.toNat).1 ≠ g) : part ow g (x :: R) = part ow g R := by
  unfold part
  rw [List.filter_cons, if_neg (by simpa using hx)]
theorem fold_join (J : Join C hs c h s ow) (ok : PoolOk C hs M) (okg : ∀ g, g < 2 → PoolOk (c g) (h g) m) : ∀ (R : List Int) (T : Nat → Bool) (U : Nat → Nat → Bool), (∀ x ∈ R, 0 ≤ x ∧ x < (hs.length : Int)) → (∀ n, n < hs.length → T n = U (ow n).1 (ow n).2) → IndP C hs T →
    ∀ n, n < hs.length → (R.foldl (gstep (IndP C hs)) T) n = ((part ow (ow n).1 R).foldl (gstep (IndP (c (ow n).1) (h (ow n).1))) (U (ow n).1)) (ow n).2
  | [], T, U, _, hE, _, n, hn => hE n hn
  | x :: R, T, U, hx, hE, hI, n, hn => by
    have hx0 := hx x List.mem_cons_self
    obtain ⟨q, rfl⟩ : ∃ q : Nat, x = (q : Int) := ⟨x.toNat, by omega⟩
    have hq : q < hs.length := by omega
    obtain ⟨g1, g2, g3⟩ := J.rg q hq
    have back : ∀ (S : Nat → Bool) (g p : Nat), g < 2 → p < (h g).length → (∀ n, n < hs.length → T n = U (ow n).1 (ow n).2) → T (Zu.inv ow hs.length g p) = U g p := fun S g p hg hp e => by
      obtain ⟨i1, i2⟩ := J.inv hg hp
      rw [e _ i1, i2]
    have iff : IndP C hs (ins T q) ↔ IndP (c (ow q).1) (h (ow q).1) (ins (U (ow q).1) (ow q).2) := by
      rw [ind_join J ok okg]
      have eq1 : ∀ p, p < (h (ow q).1).length → ins T q (Zu.inv ow hs.length (ow q).1 p) = ins (U (ow q).1) (ow q).2 p := fun p hp => by
        obtain ⟨i1, i2⟩ := J.inv g1 hp
        rw [Bool.eq_iff_iff, ins_iff, ins_iff, back T _ p g1 hp hE]
        constructor
        · rintro (z | z)
          · exact .inl z
          · rw [z] at i2; exact .inr (Prod.ext_iff.mp i2).2.symm
        · rintro (z | z)
          · exact .inl z
          · right; rw [z]; exact J.back hq
      constructor
      · intro z
        exact (ind_congr eq1).mp (z _ g1)
      · intro z g hg
        by_cases e : g = (ow q).1
        · subst e
          exact (ind_congr eq1).mpr z
        · have := (ind_join J ok okg T).mp hI g hg
          refine ind_sub this fun p hp y => ?_
          obtain ⟨i1, i2⟩ := J.inv hg hp
          rcases ins_iff.mp y with w | w
          · exact w
          · rw [w] at i2
            exact absurd (Prod.ext_iff.mp i2).1.symm e
    rw [List.foldl_cons]
    have nx : ∀ (n' : Nat), n' < hs.length → gstep (IndP C hs) T (q : Int) n' = (if (ow n').1 = (ow q).1 then gstep (IndP (c (ow q).1) (h (ow q).1)) (U (ow q).1) ((ow q).2 : Int) else U (ow n').1) (ow n').2 := fun n' hn' => by
      by_cases hB : IndP C hs (ins T q)
      · rw [gstep_yes (x := (q : Int)) hB, gstep_yes (x := ((ow q).2 : Int)) (iff.mp hB)]
        rw [Int.toNat_natCast, Int.toNat_natCast, Bool.eq_iff_iff, ins_iff, hE n' hn']
        split
        · rename_i e
          rw [ins_iff, e]
          constructor
          · rintro (z | rfl)
            · exact .inl z
            · exact .inr rfl
          · rintro (z | z)
            · exact .inl z
            · exact .inr (J.inj _ _ hn' hq (Prod.ext e z))
        · rename_i e
          constructor
          · rintro (z | rfl)
            · exact z
            · exact absurd rfl e
          · exact fun z => .inl z
      · rw [gstep_no (x := (q : Int)) hB, gstep_no (x := ((ow q).2 : Int)) (fun z => hB (iff.mpr z)), hE n' hn']
        split
        · rename_i e; rw [e]
        · rfl
    have hI' : IndP C hs (gstep (IndP C hs) T (q : Int)) := by
      unfold gstep
      split
      · rename_i z; exact z
      · exact hI
    have ih := fold_join J ok okg R (gstep (IndP C hs) T (q : Int)) (fun g => if g = (ow q).1 then gstep (IndP (c (ow q).1) (h (ow q).1)) (U (ow q).1) ((ow q).2 : Int) else U g) (fun x hx' => hx x (List.mem_cons_of_mem _ hx')) nx hI' n hn
    rw [ih]
    by_cases e : (ow q).1 = (ow n).1
    · rw [part_yes (x := (q : Int)) e, List.foldl_cons]
      rw [if_pos e.symm, Int.toNat_natCast, e]
    · rw [part_no (x := (q : Int)) e]
      rw [if_neg (fun z => e z.symm)]
theorem greedy_join (J : Join C hs c h s ow) (ok : PoolOk C hs M) (okg : ∀ g, g < 2 → PoolOk (c g) (h g) m) {R : List Int} (hR : ∀ x ∈ R, 0 ≤ x ∧ x < (hs.length : Int)) {n : Nat} (hn : n < hs.length) :
    greedy (IndP C hs) R n = greedy (IndP (c (ow n).1) (h (ow n).1)) (part ow (ow n).1 R) (ow n).2 :=
  fold_join J ok okg R _ (fun _ _ => false) hR (fun _ _ => rfl) ⟨_, deals_nil⟩ n hn
/-- one group's worths -/
def mine (ow : Nat → Nat × Nat) (N g k : Nat) (ws : List Int) : List Int := (List.range k).map fun p => at_ ws ((inv ow N g p : Nat) : Int)
theorem mine_at {N g k : Nat} {ws : List Int} {p : Nat} (hp : p < k) : at_ (mine ow N g k ws) (p : Int) = at_ ws ((inv ow N g p : Nat) : Int) := at_eq rfl (by unfold mine; rw [List.getElem?_map, List.getElem?_range hp]; rfl)
theorem part_row (J : Join C hs c h s ow) {ws R : List Int} (hl : ws.length = hs.length) (hR : Row ws R ws.length) {g : Nat} (hg : g < 2) : Row (mine ow hs.length g (h g).length ws) (part ow g R) (mine ow hs.length g (h g).length ws).length := by
  have hml : (mine ow hs.length g (h g).length ws).length = (h g).length := by unfold mine; rw [List.length_map, List.length_range]
  have hF : ∀ x ∈ R.filter (fun x => decide ((ow x.toNat).1 = g)), (0 ≤ x ∧ x < (hs.length : Int)) ∧ (ow x.toNat).1 = g := fun x hx => by
    obtain ⟨h1, h2⟩ := List.mem_filter.mp hx
    have := hR.mem x h1
    exact ⟨by omega, of_decide_eq_true h2⟩
  have hw : ∀ x ∈ R.filter (fun x => decide ((ow x.toNat).1 = g)), at_ (mine ow hs.length g (h g).length ws) ((ow x.toNat).2 : Int) = at_ ws x := fun x hx => by
    obtain ⟨h1, h2⟩ := hF x hx
    have r := J.rg x.toNat (by omega)
    have b := J.back (q := x.toNat) (by omega)
    rw [h2] at r b
    rw [mine_at r.2.1, b, show ((x.toNat : Nat) : Int) = x by omega]
  have nd : (part ow g R).Nodup := by
    unfold part
    refine List.pairwise_map.mpr (List.Pairwise.imp_of_mem (fun {a b} ha hb hab e => hab ?_) (hR.nd.sublist List.filter_sublist))
    obtain ⟨a1, a2⟩ := hF a ha
    obtain ⟨b1, b2⟩ := hF b hb
    have := J.inj a.toNat b.toNat (by omega) (by omega) (Prod.ext (a2.trans b2.symm) (by omega))
    omega
  have all : ∀ y, y ∈ part ow g R ↔ 0 ≤ y ∧ y < ((h g).length : Int) := fun y => by
    unfold part
    rw [List.mem_map]
    constructor
    · rintro ⟨x, hx, rfl⟩
      obtain ⟨h1, h2⟩ := hF x hx
      have r := J.rg x.toNat (by omega)
      rw [h2] at r
      omega
    · intro hy
      obtain ⟨q, q1, q2⟩ := J.sur g hg y.toNat (by omega)
      refine ⟨(q : Int), List.mem_filter.mpr ⟨(hR.all _).mpr (by omega), ?_⟩, ?_⟩
      · rw [Int.toNat_natCast, q2]; exact decide_eq_true rfl
      · rw [Int.toNat_natCast, q2]; dsimp only; omega
  have len : (part ow g R).length = (h g).length := by
    have hp : (part ow g R).Perm (intsTo ((h g).length : Int)) := (List.perm_ext_iff_of_nodup nd (ints_nodup _)).mpr fun y => by rw [all, ints_mem]
    rw [hp.length_eq, intsTo_len]
    simp
  refine ⟨by rw [len, hml], nd, fun y hy => by rw [hml]; exact (all y).mp hy, ?_, fun x hx y h0 h1 hy => absurd ((all y).mpr ⟨h0, by rw [hml] at h1; exact h1⟩) hy⟩
  unfold part
  refine List.pairwise_map.mpr (List.Pairwise.imp_of_mem (fun {a b} ha hb hab => ?_) (hR.pw.sublist List.filter_sublist))
  unfold lt at hab ⊢
  rw [hw a ha, hw b hb]
  rcases hab with z | ⟨z1, z2⟩
  · exact .inl z
  · refine .inr ⟨z1, ?_⟩
    obtain ⟨a1, a2⟩ := hF a ha
    obtain ⟨b1, b2⟩ := hF b hb
    have := J.mono a.toNat b.toNat (by omega) (by omega) (a2.trans b2.symm)
    omega
/-- the pieces of a group, in their order -/
theorem mine_list (J : Join C hs c h s ow) {g : Nat} (hg : g < 2) : (List.range hs.length).filter (fun q => decide ((ow q).1 = g)) = (List.range (h g).length).map fun p => Zu.inv ow hs.length g p := by
  have iv := fun (p : Nat) (hp : p < (h g).length) => J.inv hg hp
  have s1 : ((List.range hs.length).filter (fun q => decide ((ow q).1 = g))).Pairwise (· < ·) := List.pairwise_lt_range.sublist List.filter_sublist
  have s2 : ((List.range (h g).length).map fun p => Zu.inv ow hs.length g p).Pairwise (· < ·) := by
    refine List.pairwise_map.mpr (List.Pairwise.imp_of_mem (fun {a b} ha hb hab => ?_) List.pairwise_lt_range)
    have ha := iv a (List.mem_range.mp ha)
    have hb := iv b (List.mem_range.mp hb)
    rcases Nat.lt_trichotomy (Zu.inv ow hs.length g a) (Zu.inv ow hs.length g b) with z | z | z
    · exact z
    · exfalso
      have := ha.2
      rw [z, hb.2] at this
      have := (Prod.ext_iff.mp this).2
      dsimp only at this
      omega
    · exfalso
      have := J.mono _ _ z ha.1 (by rw [ha.2, hb.2])
      rw [ha.2, hb.2] at this
      dsimp only at this
      omega
  refine List.Perm.eq_of_pairwise (le := fun a b : Nat => a < b) (fun a b _ _ h1 h2 => by omega) s1 s2 ((List.perm_ext_iff_of_nodup (s1.imp fun h => Nat.ne_of_lt h) (s2.imp fun h => Nat.ne_of_lt h)).mpr fun q => ?_)
  rw [List.mem_filter, List.mem_range, List.mem_map, decide_eq_true_eq]
  constructor
  · rintro ⟨h1, h2⟩
    have r := J.rg q h1
    have b := J.back h1
    rw [h2] at r b
    exact ⟨(ow q).2, List.mem_range.mpr r.2.1, b⟩
  · rintro ⟨p, hp, rfl⟩
    have := iv p (List.mem_range.mp hp)
    exact ⟨this.1, by rw [this.2]⟩
end
end Zu
end

section
set_option Elab.async false
set_option linter.all false
set_option maxRecDepth 100000
set_option maxHeartbeats 4000000
/-! Two pools side by side, as the law joins them. -/
namespace Y
open PySem L2 Zk Zc Zsl
def encO (e : Nat × Nat) : D := .tup [.int (e.1 : Int), .int (e.2 : Int)]
def grp (c : List Int) (h : List (List Int)) : D := .tup [.lst (iL c), .lst (rowsL h)]
theorem grp0 {c : List Int} {h : List (List Int)} : ixD (grp c h) (.int 0) = some (.lst (iL c)) := rfl
theorem grp1 {c : List Int} {h : List (List Int)} : ixD (grp c h) (.int 1) = some (.lst (rowsL h)) := rfl
local macro_rules | `(tactic| walk_at "zs") => `(tactic| simp only [beq_self_eq_true, Bool.or_false, Bool.false_or, Bool.true_or, Bool.or_true, Bool.and_false, Bool.false_and, Bool.true_and, Bool.and_true, Zc.isi_ii, Zc.isi_ib, Zc.isi_tt, Zc.isi_ll, Zc.rowsT_len, Zc.rowsL_len, Zc.is_integer_call, Zc.ix_p0, Zc.ix_p1, dgTup2_a, dgTup3_a, Bool.not_true, Bool.not_false, mul_lz, List.flatten_cons, List.flatten_nil, Int.reduceToNat, add_ll, pow10_12, pow10_18, pow10_39, pow10_41, pow10_59, pow10_60, mkLst_some, mkTup_some, List.length_cons, List.length_nil, Nat.zero_le, Nat.reduceAdd, Nat.reduceLeDiff, call1, callO1, call2, callO2, call3, callO3, call4, callO4, call5, callO5, call6, callO6, ap1_some, ap2_some, apN_some, apC_some, d1_a, d2_a, dN_a, aNil_a, aCons_a, dC_a, dVar_z, dVar_s, tDt_a, apAnd_t, apAnd_f, apOr_t, apOr_f, dAndT_a, dOrT_a, apNot_some, dNotT_a, apAndV_t, apAndV_f, dAndV_a, apOrV_t, apOrV_f, dOrV_a, apIf_t, apIf_f, dIf_a, apCh_t, apCh_f, apChain_some, dChain_a, apSeq_nx, apSeq_rt, apSeq_ct, apSeq_bk, sSeq_a, apIfS_t, apIfS_f, sIf_a, sNext_a, sCont_a, sBreak_a, apRet_some, sRet_a, apRetO_some, sRetO_a, sRetN_a, getO_z, getO_s, apRetV_some, sRetV_a, ltB_z, ltB_s, okSlot_s, apAsg_some, sAsg_a, dName_ok, apG_some, dgCons_a, dgNil_a, apAsgO_some, sAsgO_a, sApp_a, sSetI_a, apFor_some, sFor_a, dItems_a, dRng1_a, dRng2_a, apEn_some, apEn_tup, dEnum_a, sFrz_a, frzs_nil, frzs_cons, frzI_o, frzI_v, frzI_n, frzI_s, frz1_s, frzAll_nil, frzAll_o, frzAll_v, frzAll_n, peekT_a, apPk_int, apPk_bl, apPk_str, apPk_non, peekF_a, dCall_a, toO_o, dCallO_a, dMake_a, Wd_v, Wd_o, dSl_a, apSl_some, oNone_a, oSome_a, apO_some, add_ii, sub_ii, lt_ii, le_ii, gt_ii, ge_ii, eq_ii, ne_ii, neg_i, not_b, bl_b, tru_b, tru_i, tru_l, tru_t, tru_n, len_l, len_t, len_scr, abs_i, int_i, list_l, list_t, tuple_l, tuple_t, min_ii, max_ii, rev_l, items_l, items_t, iL_len, run_a, outW_rt, outW_nx, List.map_cons, List.map_nil, List.replicate, List.append_nil, List.cons_append, List.nil_append, List.set_cons_zero, List.set_cons_succ, Option.map_some])
local macro_rules | `(tactic| walk_at "zd") => `(tactic| first | ((with_reducible show okSlot _ _ = true); simp only [okSlot_s, ltB_z, ltB_s]; done) | omega | assumption | decide | (simp only [List.length_map, List.length_append, List.length_cons, List.length_nil, List.length_range, List.length_set, List.length_reverse, iL_len, Zc.rowsT_len, Zc.rowsL_len] at *; omega))
local macro_rules | `(tactic| walk_at "zz") => `(tactic| simp (disch := walk_at "zd") only [dgTup2_a, dgTup3_a, Bool.not_true, Bool.not_false, mul_lz, List.flatten_cons, List.flatten_nil, Int.reduceToNat, add_ll, pow10_12, pow10_18, pow10_39, pow10_41, pow10_59, pow10_60, mkLst_some, mkTup_some, List.length_cons, List.length_nil, Nat.zero_le, Nat.reduceAdd, Nat.reduceLeDiff, call1, callO1, call2, callO2, call3, callO3, call4, callO4, call5, callO5, call6, callO6, ap1_some, ap2_some, apN_some, apC_some, d1_a, d2_a, dN_a, aNil_a, aCons_a, dC_a, dVar_z, dVar_s, tDt_a, apAnd_t, apAnd_f, apOr_t, apOr_f, dAndT_a, dOrT_a, apNot_some, dNotT_a, apAndV_t, apAndV_f, dAndV_a, apOrV_t, apOrV_f, dOrV_a, apIf_t, apIf_f, dIf_a, apCh_t, apCh_f, apChain_some, dChain_a, apSeq_nx, apSeq_rt, apSeq_ct, apSeq_bk, sSeq_a, apIfS_t, apIfS_f, sIf_a, sNext_a, sCont_a, sBreak_a, apRet_some, sRet_a, apRetO_some, sRetO_a, sRetN_a, getO_z, getO_s, apRetV_some, sRetV_a, ltB_z, ltB_s, okSlot_s, apAsg_some, sAsg_a, dName_ok, apG_some, dgCons_a, dgNil_a, apAsgO_some, sAsgO_a, sApp_a, sSetI_a, apFor_some, sFor_a, dItems_a, dRng1_a, dRng2_a, apEn_some, apEn_tup, dEnum_a, sFrz_a, frzs_nil, frzs_cons, frzI_o, frzI_v, frzI_n, frzI_s, frz1_s, frzAll_nil, frzAll_o, frzAll_v, frzAll_n, peekT_a, apPk_int, apPk_bl, apPk_str, apPk_non, peekF_a, dCall_a, toO_o, dCallO_a, dMake_a, Wd_v, Wd_o, dSl_a, apSl_some, oNone_a, oSome_a, apO_some, add_ii, sub_ii, lt_ii, le_ii, gt_ii, ge_ii, eq_ii, ne_ii, neg_i, not_b, bl_b, tru_b, tru_i, tru_l, tru_t, tru_n, len_l, len_t, len_scr, abs_i, int_i, list_l, list_t, tuple_l, tuple_t, min_ii, max_ii, rev_l, items_l, items_t, iL_len, run_a, outW_rt, outW_nx, List.map_cons, List.map_nil, List.replicate, List.append_nil, List.cons_append, List.nil_append, List.set_cons_zero, List.set_cons_succ, Option.map_some, Int.reduceAdd, Int.reduceMul, Int.reduceSub, Int.reduceNeg, beq_self_eq_true, Bool.or_false, Bool.false_or, Bool.true_or, Bool.or_true, Bool.and_false, Bool.false_and, Bool.true_and, Bool.and_true, Zc.isi_ii, Zc.isi_ib, Zc.isi_tt, Zc.isi_ll, Zc.rowsT_len, Zc.rowsL_len, Zc.is_integer_call, Zc.ix_p0, Zc.ix_p1, apR1_any, Int.toNat_natCast, apR2_some, mod_ii, fdiv_ii, mul_small, apApp_some, ix_at, ix_atT, ix_atI, ix_atIT, ix_atR, ix_atRT, List.length_map, List.length_append, List.length_range, List.length_set, Option.map_none, Option.map_map, decide_true, decide_false, peekO_a, apPkO_i, frz_wo, frz_wv, frz_kk, wipeG_nil, wipeG_cons, orB_s, orB_t, orB_f, andB_s, andB_t, andB_f, orV_s, orV_t, orV_f, andV_s, andV_t, andV_f, apOr_b, apAnd_b, apOrV_b, apAndV_b, apCh_b, Zc.cut_from, Zc.cut_to, in_l, in_t, in_pr, eq_op_op, eq_op_pr, eq_pr_op, eq_pr_pr, ne_op_op, ne_op_pr, ne_pr_op, ne_pr_pr, isnt_op, is_op, pr_0, pr_1, st_0, st_1, inP_pr, ninP_pr, nin_l, isi_prt, len_pr, op_some, prD_eq, ix_lit2, ix_lit3, ix_lit4, ix_lit5, ix_lit6, ix_lit7, ix_lit8, ix_lit9, ix_lit10, ix_lit11, ix_lit12, ix_lit13, ix_lit14, ix_lit15, setI_i, setI_p, setI_o, setI_n, snoc_i, snoc_r, snoc_p, snoc_n, snoc_o, snoc_pp, snoc_s, eq_ol, ne_ol, eq_pl, ne_pl, eq_sl, ne_sl, eq_il, ne_il, eq_rl, ne_rl, eq_il1, isi_bb, eq_bb, ne_bb, eq_self, isi_call, Int.reduceBEq, Bool.not_true, Bool.not_false, if_true, grp0, grp1])
local macro_rules | `(tactic| walk_at "zf") => `(tactic| first | (walk_at "zz"; done) | (walk_at "zz"; rfl) | rfl)
local macro_rules | `(tactic| walk_at "lc") => `(tactic| ((case hf => rfl); (case hi => first | (walk_at "zz"; done) | (walk_at "zz"; rfl) | rfl); (case hl => walk_at "zd"); (case h => (intro a ha; refine ⟨_, dName_ok rfl, ?_, fun hT => ?_⟩ <;> walk_at "zz" <;> rfl))))
local macro_rules | `(tactic| walk_at "lm") => `(tactic| ((case hf => rfl); (case hi => first | (walk_at "zz"; done) | (walk_at "zz"; rfl) | rfl); (case hl => walk_at "zd"); (case h => (intro a ha; refine ⟨_, dName_ok rfl, ?_⟩; walk_at "zz"; rfl))))
structure JoinO (O : List (Nat × Nat)) (m0 m1 k : Nat) : Prop where
  mem : ∀ e, e ∈ O ↔ e.2 < k ∧ ((e.1 = 0 ∧ e.2 < m0) ∨ (e.1 = 1 ∧ e.2 < m1))
  pw : O.Pairwise fun a b => a.1 = b.1 → a.2 < b.2
def two {α : Type} (a b : α) : Nat → α := fun g => if g = 0 then a else b
def rowJ (h0 h1 : List (List Int)) (s : Int) (e : Nat × Nat) : List Int := (at_ (two h0 h1 e.1) (e.2 : Int)).map fun k => k + two 0 s e.1
theorem JoinO.next {O : List (Nat × Nat)} {m0 m1 k : Nat} (J : JoinO O m0 m1 k) {A : List (Nat × Nat)} (hA : ∀ e, e ∈ A ↔ e.2 = k ∧ ((e.1 = 0 ∧ e.2 < m0) ∨ (e.1 = 1 ∧ e.2 < m1))) (hp : A.Pairwise fun a b => a.1 = b.1 → a.2 < b.2) : JoinO (O ++ A) m0 m1 (k + 1) where
  mem := fun e => by
    rw [List.mem_append, J.mem, hA]
    constructor
    · rintro (⟨h1, h2⟩ | ⟨h1, h2⟩)
      · exact ⟨by omega, h2⟩
      · exact ⟨by omega, h2⟩
    · rintro ⟨h1, h2⟩
      by_cases z : e.2 = k
      · exact .inr ⟨z, h2⟩
      · exact .inl ⟨by omega, h2⟩
  pw := List.pairwise_append.mpr ⟨J.pw, hp, fun a ha b hb _ => by
    have h1 := ((J.mem a).mp ha).1
    have h2 := ((hA b).mp hb).1
    omega⟩
theorem rowJ0 {h0 h1 : List (List Int)} {s : Int} {p : Nat} : rowJ h0 h1 s (0, p) = at_ h0 (p : Int) := by
  unfold rowJ two
  simp
theorem rowJ1 {h0 h1 : List (List Int)} {s : Int} {p : Nat} : rowJ h0 h1 s (1, p) = (at_ h1 (p : Int)).map fun k => k + s := by
  unfold rowJ two
  simp
theorem joined_spec {c0 c1 : List Int} {h0 h1 : List (List Int)} {m : Nat} (ok0 : PoolOk c0 h0 m) (ok1 : PoolOk c1 h1 m) (hm : m ≤ 20) :
    ∃ O, g_law_joined [grp c0 h0, grp c1 h1] = some (.v (.tup [.lst (iL (c0 ++ c1)), .lst (rowsL (O.map (rowJ h0 h1 (c0.length : Int)))), .lst (O.map encO)])) ∧ JoinO O h0.length h1.length (max h0.length h1.length) ∧ O.length ≤ h0.length + h1.length := by
  have p0 := ok0.pm
  have p1 := ok1.pm
  have q0 := ok0.s12
  have q1 := ok1.s12
  unfold g_law_joined t_law_joined
  walk_at "zz"
  rw [show (if (h1.length : Int) > (h0.length : Int) then (h1.length : Int) else (h0.length : Int)).toNat = max h0.length h1.length by split <;> omega, show iL c0 ++ iL c1 = iL (c0 ++ c1) from by unfold iL; rw [List.map_append]]
  refine rng_then (C := fun o => ∃ O, outW o = some (.v (.tup [.lst (iL (c0 ++ c1)), .lst (rowsL (O.map (rowJ h0 h1 (c0.length : Int)))), .lst (O.map encO)])) ∧ JoinO O h0.length h1.length (max h0.length h1.length) ∧ O.length ≤ h0.length + h1.length) (fun i g => ∃ (O : List (Nat × Nat)) (k6 : Option D), g = [some (.v (grp c0 h0)), some (.v (grp c1 h1)), some (.v (.lst (iL (c0 ++ c1)))), some (.v (.int (c0.length : Int))), some (.o (.lst (rowsL (O.map (rowJ h0 h1 (c0.length : Int)))))), some (.o (.lst (O.map encO))), k6.map Wd.v, none] ∧ JoinO O h0.length h1.length i ∧ O.length ≤ min i h0.length + min i h1.length) ⟨[], none, rfl, ⟨fun e => by simp, List.Pairwise.nil⟩, Nat.zero_le _⟩ ?_ ?_ ?_
  · rintro i g ⟨O, k6, rfl, _⟩
    rfl
  · rintro i g hi ⟨O, k6, rfl, J, hO⟩
    have l4 : ∀ O : List (Nat × Nat), O.length ≤ 50 → (rowsL (O.map (rowJ h0 h1 (c0.length : Int)))).length < 100000 := fun O h => by rw [rowsL_len, List.length_map]; omega
    have l5 : ∀ O : List (Nat × Nat), O.length ≤ 50 → (O.map encO).length < 100000 := fun O h => by rw [List.length_map]; omega
    have b4 := l4 O (by omega)
    have b5 := l5 O (by omega)
    show StepTo (sSeq _ _ [some (.v (grp c0 h0)), some (.v (grp c1 h1)), some (.v (.lst (iL (c0 ++ c1)))), some (.v (.int (c0.length : Int))), some (.o (.lst (rowsL (O.map (rowJ h0 h1 (c0.length : Int)))))), some (.o (.lst (O.map encO))), some (.v (.int (i : Int))), none]) _
    have row1 : i < h1.length → (at_ h1 (i : Int)).length ≤ 100 ∧ ixD (.lst (rowsL h1)) (.int (i : Int)) = some (.lst (iL (at_ h1 (i : Int)))) := fun h => by
      have := (Zc.Asc.hold (ok1.asc _ (at_mem (xs := h1) (k := (i : Int)) (by omega) (by omega)))).len
      exact ⟨by omega, ix_atR (by omega) (by omega)⟩
    have sec : ∀ (O' : List (Nat × Nat)), O'.length ≤ 48 → JoinO (O' ++ if i < h1.length then [(1, i)] else []) h0.length h1.length (i + 1) → (O' ++ if i < h1.length then [(1, i)] else []).length ≤ min (i + 1) h0.length + min (i + 1) h1.length →
        StepTo (apIfS (some (decide ((i : Int) < (h1.length : Int)))) (sSeq (sApp 4 (dLc (dItems (d2 ixD (d2 ixD (dVar 1) (dC (D.int 1))) (dVar 6))) (dName 7) dYes (d2 addD (dVar 7) (dVar 3)) [7])) (sApp 5 (dN mkTup (aCons (dC (D.int 1)) (aCons (dVar 6) aNil))))) sNext [some (.v (grp c0 h0)), some (.v (grp c1 h1)), some (.v (.lst (iL (c0 ++ c1)))), some (.v (.int (c0.length : Int))), some (.o (.lst (rowsL (O'.map (rowJ h0 h1 (c0.length : Int)))))), some (.o (.lst (O'.map encO))), some (.v (.int (i : Int))), none])
          (fun g => ∃ (O : List (Nat × Nat)) (k6 : Option D), g = [some (.v (grp c0 h0)), some (.v (grp c1 h1)), some (.v (.lst (iL (c0 ++ c1)))), some (.v (.int (c0.length : Int))), some (.o (.lst (rowsL (O.map (rowJ h0 h1 (c0.length : Int)))))), some (.o (.lst (O.map encO))), k6.map Wd.v, none] ∧ JoinO O h0.length h1.length (i + 1) ∧ O.length ≤ min (i + 1) h0.length + min (i + 1) h1.length) := fun O' hO' J' hl' => by
      have b4 := l4 O' (by omega)
      have b5 := l5 O' (by omega)
      by_cases z1 : i < h1.length
      · obtain ⟨r1, r2⟩ := row1 z1
        rw [if_pos z1] at J' hl'
        rw [show decide ((i : Int) < (h1.length : Int)) = true from decide_eq_true (by omega)]
        walk_at "zz"
        rewrite [dLc_map D.int (xs := at_ h1 (i : Int)) (F := fun k => .int (k + (c0.length : Int)))]
        case hf => rfl
        case hi => walk_at "zz"; rfl
        case hl => omega
        case h =>
          intro k hk
          refine ⟨_, dName_ok rfl, ?_⟩
          walk_at "zz"
        rw [map_int]
        walk_at "zz"
        refine step_nx ⟨O' ++ [(1, i)], some (.int (i : Int)), ?_, J', hl'⟩
        rw [List.map_append, List.map_append, List.map_singleton, List.map_singleton, rowJ1]
        rfl
      · rw [if_neg z1, List.append_nil] at J' hl'
        rw [show decide ((i : Int) < (h1.length : Int)) = false from decide_eq_false (by omega)]
        walk_at "zz"
        exact step_nx ⟨O', some (.int (i : Int)), rfl, J', hl'⟩
    by_cases z0 : i < h0.length
    · have e0 : decide ((i : Int) < (h0.length : Int)) = true := decide_eq_true (by omega)
      walk_at "zz"
      rw [e0]
      walk_at "zz"
      rw [show O.map (rowJ h0 h1 (c0.length : Int)) ++ [at_ h0 (i : Int)] = (O ++ [(0, i)]).map (rowJ h0 h1 (c0.length : Int)) from by rw [List.map_append, List.map_singleton, rowJ0], show O.map encO ++ [prD (0, (i : Int))] = (O ++ [(0, i)]).map encO from by rw [List.map_append]; rfl]
      refine sec (O ++ [(0, i)]) (by rw [List.length_append]; simp; omega) ?_ ?_
      · rw [List.append_assoc]
        refine J.next (fun e => ?_) ?_
        · by_cases z1 : i < h1.length
          · rw [if_pos z1]
            simp only [List.mem_append, List.mem_singleton]
            rw [Prod.ext_iff, Prod.ext_iff]
            dsimp only
            omega
          · rw [if_neg z1]
            simp only [List.append_nil, List.mem_singleton]
            rw [Prod.ext_iff]
            dsimp only
            omega
        · by_cases z1 : i < h1.length
          · rw [if_pos z1]
            simp
          · rw [if_neg z1]
            simp
      · by_cases z1 : i < h1.length
        · rw [if_pos z1]; simp; omega
        · rw [if_neg z1]; simp; omega
    · have e0 : decide ((i : Int) < (h0.length : Int)) = false := decide_eq_false (by omega)
      walk_at "zz"
      rw [e0]
      walk_at "zz"
      refine sec O (by omega) ?_ ?_
      · refine J.next (fun e => ?_) ?_
        · have z1 : i < h1.length := by omega
          rw [if_pos z1, List.mem_singleton, Prod.ext_iff]
          dsimp only
          omega
        · split <;> simp
      · have z1 : i < h1.length := by omega
        rw [if_pos z1]; simp; omega
  · rintro g ⟨O, k6, rfl, J, hO⟩
    walk_at "zz"
    exact ⟨O, rfl, J, by omega⟩
end Y
end

section
set_option Elab.async false
set_option linter.all false
set_option maxRecDepth 100000
set_option maxHeartbeats 4000000
/-! What the law collects in two pools side by side. -/
namespace Y
open PySem L2 Zk Zc Zsl
theorem capAt_l {a b : List Int} {k : Int} (h0 : 0 ≤ k) (h1 : k < (a.length : Int)) : capAt (a ++ b) k = capAt a k := by
  unfold capAt
  rw [List.getElem?_append_left (by omega)]
theorem capAt_r {a b : List Int} {k : Int} (h0 : 0 ≤ k) : capAt (a ++ b) (k + (a.length : Int)) = capAt b k := by
  unfold capAt
  rw [List.getElem?_append_right (by omega), show (k + (a.length : Int)).toNat - a.length = k.toNat by omega]
section
variable {c0 c1 : List Int} {h0 h1 : List (List Int)} {m : Nat} {O : List (Nat × Nat)}
def owO (O : List (Nat × Nat)) (q : Nat) : Nat × Nat := O[q]?.getD (0, 0)
theorem owO_at {q : Nat} {e : Nat × Nat} (h : O[q]? = some e) : owO O q = e := by unfold owO; rw [h]; rfl
theorem two_lt {g : Nat} (hg : g < 2) : g = 0 ∨ g = 1 := by omega
theorem two0 {α : Type} {a b : α} : two a b 0 = a := rfl
theorem two1 {α : Type} {a b : α} : two a b 1 = b := rfl
theorem pool_two (ok0 : PoolOk c0 h0 m) (ok1 : PoolOk c1 h1 m) : ∀ g, g < 2 → PoolOk (two c0 c1 g) (two h0 h1 g) m := fun g hg => by
  rcases two_lt hg with rfl | rfl
  · exact ok0
  · exact ok1
theorem rowJ_in (ok0 : PoolOk c0 h0 m) (ok1 : PoolOk c1 h1 m) {k : Nat} (J : JoinO O h0.length h1.length k) {e : Nat × Nat} (he : e ∈ O) : e.1 < 2 ∧ e.2 < (two h0 h1 e.1).length := by
  have := ((J.mem e).mp he).2
  rcases this with ⟨a, b⟩ | ⟨a, b⟩
  · rw [a]; exact ⟨by omega, b⟩
  · rw [a]; exact ⟨by omega, b⟩
theorem join_of (ok0 : PoolOk c0 h0 m) (ok1 : PoolOk c1 h1 m) (J : JoinO O h0.length h1.length (max h0.length h1.length)) :
    Zu.Join (c0 ++ c1) (O.map (rowJ h0 h1 (c0.length : Int))) (two c0 c1) (two h0 h1) (two 0 (c0.length : Int)) (owO O) where
  rg q hq := by
    rw [List.length_map] at hq
    have e := List.getElem?_eq_getElem hq
    rw [owO_at e]
    have r := rowJ_in ok0 ok1 J (List.mem_of_getElem? e)
    exact ⟨r.1, r.2, at_eq rfl (by rw [List.getElem?_map, e]; rfl)⟩
  sur g hg p hp := by
    have : (g, p) ∈ O := (J.mem _).mpr (by
      rcases two_lt hg with rfl | rfl
      · rw [two0] at hp; exact ⟨by dsimp only; omega, .inl ⟨rfl, hp⟩⟩
      · rw [two1] at hp; exact ⟨by dsimp only; omega, .inr ⟨rfl, hp⟩⟩)
    obtain ⟨q, hq⟩ := List.mem_iff_getElem?.mp this
    exact ⟨q, by rw [List.length_map]; exact (List.getElem?_eq_some_iff.mp hq).1, owO_at hq⟩
  inj q q' hq hq' e := by
    rw [List.length_map] at hq hq'
    rw [owO_at (List.getElem?_eq_getElem hq), owO_at (List.getElem?_eq_getElem hq')] at e
    rcases Nat.lt_trichotomy q q' with z | z | z
    · have := List.pairwise_iff_getElem.mp J.pw q q' hq hq' z (by rw [e])
      rw [e] at this
      omega
    · exact z
    · have := List.pairwise_iff_getElem.mp J.pw q' q hq' hq z (by rw [e])
      rw [e] at this
      omega
  mono q q' z hq' e := by
    rw [List.length_map] at hq'
    have hq : q < O.length := by omega
    rw [owO_at (List.getElem?_eq_getElem hq), owO_at (List.getElem?_eq_getElem hq')] at e ⊢
    exact List.pairwise_iff_getElem.mp J.pw q q' hq hq' z e
  cap g hg k k0 k1 := by
    rw [List.length_append]
    rcases two_lt hg with rfl | rfl
    · rw [two0] at k1 ⊢
      rw [two0]
      rw [Int.add_zero]
      exact ⟨k0, by omega, capAt_l k0 k1⟩
    · rw [two1] at k1 ⊢
      rw [two1]
      exact ⟨by omega, by omega, capAt_r k0⟩
  sep g g' hg hg' k k' a1 a2 b1 b2 e := by
    rcases two_lt hg with rfl | rfl <;> rcases two_lt hg' with rfl | rfl
    · rfl
    · rw [two0] at a2 e; rw [two1] at e; omega
    · rw [two1] at e; rw [two0] at b2 e; omega
    · rfl
theorem pool_join (ok0 : PoolOk c0 h0 m) (ok1 : PoolOk c1 h1 m) (h5 : c0.length ≤ 5) (h5' : c1.length ≤ 5) (J : JoinO O h0.length h1.length (max h0.length h1.length)) (hO : O.length ≤ h0.length + h1.length) (hm : m ≤ 6) :
    PoolOk (c0 ++ c1) (O.map (rowJ h0 h1 (c0.length : Int))) 12 where
  s1 := by rw [List.length_append]; have := ok0.s1; omega
  s12 := by rw [List.length_append]; omega
  c0 := fun x hx => (List.mem_append.mp hx).elim (ok0.c0 x) (ok1.c0 x)
  pm := by rw [List.length_map]; have := ok0.pm; have := ok1.pm; omega
  asc := fun r hr => by
    obtain ⟨e, he, rfl⟩ := List.mem_map.mp hr
    obtain ⟨r1, r2⟩ := rowJ_in ok0 ok1 J he
    obtain ⟨g, p⟩ := e
    dsimp only at r1 r2
    rw [List.length_append]
    rcases two_lt r1 with rfl | rfl
    · rw [two0] at r2
      rw [rowJ0]
      have a := ok0.asc _ (at_mem (xs := h0) (k := (p : Int)) (by omega) (by omega))
      exact ⟨a.1, fun k hk => by have := a.2 k hk; omega⟩
    · rw [two1] at r2
      rw [rowJ1]
      have a := ok1.asc _ (at_mem (xs := h1) (k := (p : Int)) (by omega) (by omega))
      refine ⟨List.pairwise_map.mpr (a.1.imp fun h => by omega), fun k hk => ?_⟩
      obtain ⟨j, hj, rfl⟩ := List.mem_map.mp hk
      have := a.2 j hj
      omega
end
end Y
end

section
set_option Elab.async false
set_option linter.all false
set_option maxRecDepth 100000
set_option maxHeartbeats 4000000
/-! What the law collects in two pools side by side: the reading. -/
namespace Y
open PySem L2 Zk Zc Zsl
theorem enc0 {e : Nat × Nat} : ixD (encO e) (.int 0) = some (.int (e.1 : Int)) := rfl
theorem enc1 {e : Nat × Nat} : ixD (encO e) (.int 1) = some (.int (e.2 : Int)) := rfl
local macro_rules | `(tactic| walk_at "zs") => `(tactic| simp only [beq_self_eq_true, Bool.or_false, Bool.false_or, Bool.true_or, Bool.or_true, Bool.and_false, Bool.false_and, Bool.true_and, Bool.and_true, Zc.isi_ii, Zc.isi_ib, Zc.isi_tt, Zc.isi_ll, Zc.rowsT_len, Zc.rowsL_len, Zc.is_integer_call, Zc.ix_p0, Zc.ix_p1, dgTup2_a, dgTup3_a, Bool.not_true, Bool.not_false, mul_lz, List.flatten_cons, List.flatten_nil, Int.reduceToNat, add_ll, pow10_12, pow10_18, pow10_39, pow10_41, pow10_59, pow10_60, mkLst_some, mkTup_some, List.length_cons, List.length_nil, Nat.zero_le, Nat.reduceAdd, Nat.reduceLeDiff, call1, callO1, call2, callO2, call3, callO3, call4, callO4, call5, callO5, call6, callO6, ap1_some, ap2_some, apN_some, apC_some, d1_a, d2_a, dN_a, aNil_a, aCons_a, dC_a, dVar_z, dVar_s, tDt_a, apAnd_t, apAnd_f, apOr_t, apOr_f, dAndT_a, dOrT_a, apNot_some, dNotT_a, apAndV_t, apAndV_f, dAndV_a, apOrV_t, apOrV_f, dOrV_a, apIf_t, apIf_f, dIf_a, apCh_t, apCh_f, apChain_some, dChain_a, apSeq_nx, apSeq_rt, apSeq_ct, apSeq_bk, sSeq_a, apIfS_t, apIfS_f, sIf_a, sNext_a, sCont_a, sBreak_a, apRet_some, sRet_a, apRetO_some, sRetO_a, sRetN_a, getO_z, getO_s, apRetV_some, sRetV_a, ltB_z, ltB_s, okSlot_s, apAsg_some, sAsg_a, dName_ok, apG_some, dgCons_a, dgNil_a, apAsgO_some, sAsgO_a, sApp_a, sSetI_a, apFor_some, sFor_a, dItems_a, dRng1_a, dRng2_a, apEn_some, apEn_tup, dEnum_a, sFrz_a, frzs_nil, frzs_cons, frzI_o, frzI_v, frzI_n, frzI_s, frz1_s, frzAll_nil, frzAll_o, frzAll_v, frzAll_n, peekT_a, apPk_int, apPk_bl, apPk_str, apPk_non, peekF_a, dCall_a, toO_o, dCallO_a, dMake_a, Wd_v, Wd_o, dSl_a, apSl_some, oNone_a, oSome_a, apO_some, add_ii, sub_ii, lt_ii, le_ii, gt_ii, ge_ii, eq_ii, ne_ii, neg_i, not_b, bl_b, tru_b, tru_i, tru_l, tru_t, tru_n, len_l, len_t, len_scr, abs_i, int_i, list_l, list_t, tuple_l, tuple_t, min_ii, max_ii, rev_l, items_l, items_t, iL_len, run_a, outW_rt, outW_nx, List.map_cons, List.map_nil, List.replicate, List.append_nil, List.cons_append, List.nil_append, List.set_cons_zero, List.set_cons_succ, Option.map_some])
local macro_rules | `(tactic| walk_at "zd") => `(tactic| first | ((with_reducible show okSlot _ _ = true); simp only [okSlot_s, ltB_z, ltB_s]; done) | omega | assumption | decide | (simp only [List.length_map, List.length_append, List.length_cons, List.length_nil, List.length_range, List.length_set, List.length_reverse, iL_len, Zc.rowsT_len, Zc.rowsL_len] at *; omega))
local macro_rules | `(tactic| walk_at "zz") => `(tactic| simp (disch := walk_at "zd") only [dgTup2_a, dgTup3_a, Bool.not_true, Bool.not_false, mul_lz, List.flatten_cons, List.flatten_nil, Int.reduceToNat, add_ll, pow10_12, pow10_18, pow10_39, pow10_41, pow10_59, pow10_60, mkLst_some, mkTup_some, List.length_cons, List.length_nil, Nat.zero_le, Nat.reduceAdd, Nat.reduceLeDiff, call1, callO1, call2, callO2, call3, callO3, call4, callO4, call5, callO5, call6, callO6, ap1_some, ap2_some, apN_some, apC_some, d1_a, d2_a, dN_a, aNil_a, aCons_a, dC_a, dVar_z, dVar_s, tDt_a, apAnd_t, apAnd_f, apOr_t, apOr_f, dAndT_a, dOrT_a, apNot_some, dNotT_a, apAndV_t, apAndV_f, dAndV_a, apOrV_t, apOrV_f, dOrV_a, apIf_t, apIf_f, dIf_a, apCh_t, apCh_f, apChain_some, dChain_a, apSeq_nx, apSeq_rt, apSeq_ct, apSeq_bk, sSeq_a, apIfS_t, apIfS_f, sIf_a, sNext_a, sCont_a, sBreak_a, apRet_some, sRet_a, apRetO_some, sRetO_a, sRetN_a, getO_z, getO_s, apRetV_some, sRetV_a, ltB_z, ltB_s, okSlot_s, apAsg_some, sAsg_a, dName_ok, apG_some, dgCons_a, dgNil_a, apAsgO_some, sAsgO_a, sApp_a, sSetI_a, apFor_some, sFor_a, dItems_a, dRng1_a, dRng2_a, apEn_some, apEn_tup, dEnum_a, sFrz_a, frzs_nil, frzs_cons, frzI_o, frzI_v, frzI_n, frzI_s, frz1_s, frzAll_nil, frzAll_o, frzAll_v, frzAll_n, peekT_a, apPk_int, apPk_bl, apPk_str, apPk_non, peekF_a, dCall_a, toO_o, dCallO_a, dMake_a, Wd_v, Wd_o, dSl_a, apSl_some, oNone_a, oSome_a, apO_some, add_ii, sub_ii, lt_ii, le_ii, gt_ii, ge_ii, eq_ii, ne_ii, neg_i, not_b, bl_b, tru_b, tru_i, tru_l, tru_t, tru_n, len_l, len_t, len_scr, abs_i, int_i, list_l, list_t, tuple_l, tuple_t, min_ii, max_ii, rev_l, items_l, items_t, iL_len, run_a, outW_rt, outW_nx, List.map_cons, List.map_nil, List.replicate, List.append_nil, List.cons_append, List.nil_append, List.set_cons_zero, List.set_cons_succ, Option.map_some, Int.reduceAdd, Int.reduceMul, Int.reduceSub, Int.reduceNeg, beq_self_eq_true, Bool.or_false, Bool.false_or, Bool.true_or, Bool.or_true, Bool.and_false, Bool.false_and, Bool.true_and, Bool.and_true, Zc.isi_ii, Zc.isi_ib, Zc.isi_tt, Zc.isi_ll, Zc.rowsT_len, Zc.rowsL_len, Zc.is_integer_call, Zc.ix_p0, Zc.ix_p1, apR1_any, Int.toNat_natCast, apR2_some, mod_ii, fdiv_ii, mul_small, apApp_some, ix_at, ix_atT, ix_atI, ix_atIT, ix_atR, ix_atRT, List.length_map, List.length_append, List.length_range, List.length_set, Option.map_none, Option.map_map, decide_true, decide_false, peekO_a, apPkO_i, frz_wo, frz_wv, frz_kk, wipeG_nil, wipeG_cons, orB_s, orB_t, orB_f, andB_s, andB_t, andB_f, orV_s, orV_t, orV_f, andV_s, andV_t, andV_f, apOr_b, apAnd_b, apOrV_b, apAndV_b, apCh_b, Zc.cut_from, Zc.cut_to, in_l, in_t, in_pr, eq_op_op, eq_op_pr, eq_pr_op, eq_pr_pr, ne_op_op, ne_op_pr, ne_pr_op, ne_pr_pr, isnt_op, is_op, pr_0, pr_1, st_0, st_1, inP_pr, ninP_pr, nin_l, isi_prt, len_pr, op_some, prD_eq, ix_lit2, ix_lit3, ix_lit4, ix_lit5, ix_lit6, ix_lit7, ix_lit8, ix_lit9, ix_lit10, ix_lit11, ix_lit12, ix_lit13, ix_lit14, ix_lit15, setI_i, setI_p, setI_o, setI_n, snoc_i, snoc_r, snoc_p, snoc_n, snoc_o, snoc_pp, snoc_s, eq_ol, ne_ol, eq_pl, ne_pl, eq_sl, ne_sl, eq_il, ne_il, eq_rl, ne_rl, eq_il1, isi_bb, eq_bb, ne_bb, eq_self, isi_call, Int.reduceBEq, Bool.not_true, Bool.not_false, if_true, grp0, grp1, enc0, enc1])
local macro_rules | `(tactic| walk_at "zf") => `(tactic| first | (walk_at "zz"; done) | (walk_at "zz"; rfl) | rfl)
local macro_rules | `(tactic| walk_at "lc") => `(tactic| ((case hf => rfl); (case hi => first | (walk_at "zz"; done) | (walk_at "zz"; rfl) | rfl); (case hl => walk_at "zd"); (case h => (intro a ha; refine ⟨_, dName_ok rfl, ?_, fun hT => ?_⟩ <;> walk_at "zz" <;> rfl))))
local macro_rules | `(tactic| walk_at "lm") => `(tactic| ((case hf => rfl); (case hi => first | (walk_at "zz"; done) | (walk_at "zz"; rfl) | rfl); (case hl => walk_at "zd"); (case h => (intro a ha; refine ⟨_, dName_ok rfl, ?_⟩; walk_at "zz"; rfl))))
section
variable {c0 c1 : List Int} {h0 h1 : List (List Int)} {m : Nat} {O : List (Nat × Nat)}
theorem at_own {q : Nat} : at_ O (q : Int) = owO O q := rfl
theorem ix_grp {g : Nat} (hg : g < 2) : ixD (.lst [grp c0 h0, grp c1 h1]) (.int (g : Int)) = some (grp (two c0 c1 g) (two h0 h1 g)) := by
  rcases two_lt hg with rfl | rfl <;> rfl
theorem beq_nat {a b : Nat} : ((a : Int) == (b : Int)) = decide (a = b) := by
  rw [Bool.eq_iff_iff, beq_iff_eq, decide_eq_true_eq]
  omega
noncomputable abbrev keptG (c0 c1 : List Int) (h0 h1 : List (List Int)) (O : List (Nat × Nat)) (R : List Int) (g : Nat) : Nat → Bool := Zu.greedy (Zu.IndP (two c0 c1 g) (two h0 h1 g)) (Zu.part (owO O) g R)
theorem in_groups_spec (cc : Zc.Cs) (ok0 : PoolOk c0 h0 m) (ok1 : PoolOk c1 h1 m) (h5 : c0.length ≤ 5) (h5' : c1.length ≤ 5) (hm : m ≤ 6) (J : JoinO O h0.length h1.length (max h0.length h1.length)) (hO : O.length ≤ h0.length + h1.length)
    {ws R : List Int} (hl : ws.length = O.length) (hR : Zu.Row ws R ws.length) :
    g_law_collected_in_groups [.lst [grp c0 h0, grp c1 h1], .lst (O.map encO), .lst (iL ws)] = some (.v (.lst (iL (lotG (c0 ++ c1) (O.map (rowJ h0 h1 (c0.length : Int))) R)))) := by
  have p0 := ok0.pm
  have p1 := ok1.pm
  have jo := join_of ok0 ok1 J
  have okJ := pool_join ok0 ok1 h5 h5' J hO hm
  have okg := pool_two ok0 ok1
  have hN : (O.map (rowJ h0 h1 (c0.length : Int))).length = O.length := List.length_map _
  unfold g_law_collected_in_groups t_law_collected_in_groups
  walk_at "zz"
  refine rng_then (C := fun o => outW o = _) (fun i g => ∃ (L : List Int) (k4 k5 k6 : Option D), g = [some (.v (.lst [grp c0 h0, grp c1 h1])), some (.v (.lst (O.map encO))), some (.v (.lst (iL ws))), some (.v (.lst (iL L))), k4.map Wd.v, k5.map Wd.v, k6.map Wd.v, none] ∧ L.length ≤ 12 * i ∧ L.Nodup ∧ ∀ x, x ∈ L ↔ ∃ q : Nat, x = (q : Int) ∧ q < O.length ∧ (owO O q).1 < i ∧ keptG c0 c1 h0 h1 O R (owO O q).1 (owO O q).2 = true) ⟨[], none, none, none, rfl, Nat.le_refl _, List.nodup_nil, fun x => by simp⟩ ?_ ?_ ?_
  · rintro i g ⟨L, k4, k5, k6, rfl, _⟩
    rfl
  · rintro i g hi ⟨L, k4, k5, k6, rfl, hL, hn, hm'⟩
    have hi : i < 2 := hi
    have okI := okg i hi
    have hrow := Zu.part_row jo (by rw [hN]; exact hl) hR hi
    have hml : (Zu.mine (owO O) O.length i (two h0 h1 i).length ws).length = (two h0 h1 i).length := by unfold Zu.mine; rw [List.length_map, List.length_range]
    have mlist := Zu.mine_list jo hi
    rw [hN] at hrow mlist
    have eD := dealable_spec cc okI (by omega) (by have := okI.pm; omega)
    have eC := collected_spec (caps := two c0 c1 i) (hs := two h0 h1 i) (by have := okI.pm; omega) hml hrow
    have hkl : (lotG (two c0 c1 i) (two h0 h1 i) (Zu.part (owO O) i R)).length ≤ 6 := by
      have := (Zc.Asc.hold (pickI_asc (two h0 h1 i).length (Zu.greedy (Zu.IndP (two c0 c1 i) (two h0 h1 i)) (Zu.part (owO O) i R)))).len
      have := okI.pm
      unfold lotG
      omega
    have hkc : ∀ q, q < O.length → (owO O q).1 = i → ((lotG (two c0 c1 i) (two h0 h1 i) (Zu.part (owO O) i R)).contains ((owO O q).2 : Int) = keptG c0 c1 h0 h1 O R i (owO O q).2) := fun q hq e => by
      have r := (jo.rg q (by rw [hN]; exact hq)).2.1
      rw [e] at r
      rw [Bool.eq_iff_iff, List.contains_iff_mem]
      unfold lotG
      rw [pickI_mem]
      constructor
      · rintro ⟨j, e, _, h⟩; rw [show (owO O q).2 = j by omega]; exact h
      · exact fun h => ⟨_, rfl, r, h⟩
    generalize lotG (two c0 c1 i) (two h0 h1 i) (Zu.part (owO O) i R) = kept at eC hkl hkc
    show StepTo (sSeq _ _ [some (.v (.lst [grp c0 h0, grp c1 h1])), some (.v (.lst (O.map encO))), some (.v (.lst (iL ws))), some (.v (.lst (iL L))), some (.v (.int (i : Int))), k5.map Wd.v, k6.map Wd.v, none]) _
    walk_at "zz"
    rewrite [dLc_rng (n := O.length) (T := fun q => decide ((owO O q).1 = i)) (F := fun q => .int (at_ ws (q : Int)))]
    case hf => cases k5 <;> cases k6 <;> rfl
    case hi => walk_at "zz"
    case hl => omega
    case h =>
      intro q hq
      refine ⟨_, dName_ok rfl, ?_, fun _ => ?_⟩
      · walk_at "zz"
        rw [at_own, beq_nat]
      · walk_at "zz"
    rw [mlist, List.map_map, show ((fun q : Nat => D.int (at_ ws (q : Int))) ∘ fun p => Zu.inv (owO O) O.length i p) = fun p => D.int (at_ ws ((Zu.inv (owO O) O.length i p : Nat) : Int)) from rfl, map_int]
    rw [show ((List.range (two h0 h1 i).length).map fun p => at_ ws ((Zu.inv (owO O) O.length i p : Nat) : Int)) = Zu.mine (owO O) O.length i (two h0 h1 i).length ws from rfl]
    generalize Zu.mine (owO O) O.length i (two h0 h1 i).length ws = mn at eC
    walk_at "zz"
    rw [ix_grp hi]
    walk_at "zz"
    rw [eD]
    walk_at "zz"
    rw [eC]
    walk_at "zz"
    rewrite [dLc_rng (n := O.length) (T := fun q => decide ((owO O q).1 = i) && kept.contains ((owO O q).2 : Int)) (F := fun q => .int (q : Int))]
    case hf => cases k6 <;> rfl
    case hi => walk_at "zz"
    case hl => omega
    case h =>
      intro q hq
      refine ⟨_, dName_ok rfl, ?_, fun _ => ?_⟩
      · walk_at "zz"
        rw [at_own, beq_nat]
      · walk_at "zz"
    rw [pickI_iL]
    have hpl : (pickI O.length fun q => decide ((owO O q).1 = i) && kept.contains ((owO O q).2 : Int)).length ≤ 12 := by
      have := (Zc.Asc.hold (pickI_asc O.length fun q => decide ((owO O q).1 = i) && kept.contains ((owO O q).2 : Int))).len
      omega
    have hpa := pickI_asc O.length fun q => decide ((owO O q).1 = i) && kept.contains ((owO O q).2 : Int)
    have hpm : ∀ x, x ∈ (pickI O.length fun q => decide ((owO O q).1 = i) && kept.contains ((owO O q).2 : Int)) ↔ ∃ q : Nat, x = (q : Int) ∧ q < O.length ∧ (owO O q).1 = i ∧ keptG c0 c1 h0 h1 O R (owO O q).1 (owO O q).2 = true := fun x => by
      rw [pickI_mem]
      constructor
      · rintro ⟨q, e, hq, h⟩
        rw [Bool.and_eq_true, decide_eq_true_eq] at h
        exact ⟨q, e, hq, h.1, by rw [h.1, ← hkc q hq h.1]; exact h.2⟩
      · rintro ⟨q, e, hq, h1, h2⟩
        refine ⟨q, e, hq, ?_⟩
        rw [Bool.and_eq_true, decide_eq_true_eq]
        exact ⟨h1, by rw [hkc q hq h1]; rw [h1] at h2; exact h2⟩
    generalize (pickI O.length fun q => decide ((owO O q).1 = i) && kept.contains ((owO O q).2 : Int)) = P at hpl hpa hpm ⊢
    rw [show ap2 addD (some (.lst (iL L))) (some (.lst (iL P))) = some (.lst (iL (L ++ P))) from by
      show addD (.lst (iL L)) (.lst (iL P)) = _
      rw [show iL (L ++ P) = iL L ++ iL P from by unfold iL; rw [List.map_append]]
      exact if_pos (by rw [iL_len, iL_len]; omega)]
    walk_at "zz"
    refine step_nx ⟨L ++ P, some (.int (i : Int)), some (.lst (iL mn)), some (.lst (iL kept)), rfl, by rw [List.length_append]; omega, List.nodup_append.mpr ⟨hn, hpa.nodup, fun a ha b hb e => ?_⟩, fun x => ?_⟩
    · obtain ⟨q, e1, _, e2, _⟩ := (hm' a).mp ha
      obtain ⟨r, f1, _, f2, _⟩ := (hpm b).mp hb
      rw [show q = r by omega] at e2
      omega
    · rw [List.mem_append, hm', hpm]
      constructor
      · rintro (⟨q, e, hq, h1, h2⟩ | ⟨q, e, hq, h1, h2⟩)
        · exact ⟨q, e, hq, by omega, h2⟩
        · exact ⟨q, e, hq, by omega, h2⟩
      · rintro ⟨q, e, hq, h1, h2⟩
        by_cases z : (owO O q).1 = i
        · exact .inr ⟨q, e, hq, z, h2⟩
        · exact .inl ⟨q, e, hq, by omega, h2⟩
  · rintro g ⟨L, k4, k5, k6, rfl, hL, hn, hm'⟩
    have e : srt L = lotG (c0 ++ c1) (O.map (rowJ h0 h1 (c0.length : Int))) R := by
      unfold lotG
      refine srt_pick hn fun x => ?_
      rw [hm' x, pickI_mem, hN]
      constructor
      · rintro ⟨q, e, hq, h1, h2⟩
        refine ⟨q, e, hq, ?_⟩
        rw [Zu.greedy_join jo okJ okg (fun x hx => by have := hR.mem x hx; rw [hN]; omega) (by rw [hN]; exact hq)]
        exact h2
      · rintro ⟨q, e, hq, h2⟩
        refine ⟨q, e, hq, (jo.rg q (by rw [hN]; exact hq)).1, ?_⟩
        rw [Zu.greedy_join jo okJ okg (fun x hx => by have := hR.mem x hx; rw [hN]; omega) (by rw [hN]; exact hq)] at h2
        exact h2
    walk_at "zz"
    rw [srt_l, e]
    walk_at "zz"
end
end Y
end

section
set_option Elab.async false
set_option linter.all false
set_option maxRecDepth 100000
set_option maxHeartbeats 4000000
/-! The law. -/
namespace Y
open PySem L2 Zk Zc Zsl
local macro_rules | `(tactic| walk_at "zs") => `(tactic| simp only [beq_self_eq_true, Bool.or_false, Bool.false_or, Bool.true_or, Bool.or_true, Bool.and_false, Bool.false_and, Bool.true_and, Bool.and_true, Zc.isi_ii, Zc.isi_ib, Zc.isi_tt, Zc.isi_ll, Zc.rowsT_len, Zc.rowsL_len, Zc.is_integer_call, Zc.ix_p0, Zc.ix_p1, dgTup2_a, dgTup3_a, Bool.not_true, Bool.not_false, mul_lz, List.flatten_cons, List.flatten_nil, Int.reduceToNat, add_ll, pow10_12, pow10_18, pow10_39, pow10_41, pow10_59, pow10_60, mkLst_some, mkTup_some, List.length_cons, List.length_nil, Nat.zero_le, Nat.reduceAdd, Nat.reduceLeDiff, call1, callO1, call2, callO2, call3, callO3, call4, callO4, call5, callO5, call6, callO6, ap1_some, ap2_some, apN_some, apC_some, d1_a, d2_a, dN_a, aNil_a, aCons_a, dC_a, dVar_z, dVar_s, tDt_a, apAnd_t, apAnd_f, apOr_t, apOr_f, dAndT_a, dOrT_a, apNot_some, dNotT_a, apAndV_t, apAndV_f, dAndV_a, apOrV_t, apOrV_f, dOrV_a, apIf_t, apIf_f, dIf_a, apCh_t, apCh_f, apChain_some, dChain_a, apSeq_nx, apSeq_rt, apSeq_ct, apSeq_bk, sSeq_a, apIfS_t, apIfS_f, sIf_a, sNext_a, sCont_a, sBreak_a, apRet_some, sRet_a, apRetO_some, sRetO_a, sRetN_a, getO_z, getO_s, apRetV_some, sRetV_a, ltB_z, ltB_s, okSlot_s, apAsg_some, sAsg_a, dName_ok, apG_some, dgCons_a, dgNil_a, apAsgO_some, sAsgO_a, sApp_a, sSetI_a, apFor_some, sFor_a, dItems_a, dRng1_a, dRng2_a, apEn_some, apEn_tup, dEnum_a, sFrz_a, frzs_nil, frzs_cons, frzI_o, frzI_v, frzI_n, frzI_s, frz1_s, frzAll_nil, frzAll_o, frzAll_v, frzAll_n, peekT_a, apPk_int, apPk_bl, apPk_str, apPk_non, peekF_a, dCall_a, toO_o, dCallO_a, dMake_a, Wd_v, Wd_o, dSl_a, apSl_some, oNone_a, oSome_a, apO_some, add_ii, sub_ii, lt_ii, le_ii, gt_ii, ge_ii, eq_ii, ne_ii, neg_i, not_b, bl_b, tru_b, tru_i, tru_l, tru_t, tru_n, len_l, len_t, len_scr, abs_i, int_i, list_l, list_t, tuple_l, tuple_t, min_ii, max_ii, rev_l, items_l, items_t, iL_len, run_a, outW_rt, outW_nx, List.map_cons, List.map_nil, List.replicate, List.append_nil, List.cons_append, List.nil_append, List.set_cons_zero, List.set_cons_succ, Option.map_some])
local macro_rules | `(tactic| walk_at "zd") => `(tactic| first | ((with_reducible show okSlot _ _ = true); simp only [okSlot_s, ltB_z, ltB_s]; done) | omega | assumption | decide | (simp only [List.length_map, List.length_append, List.length_cons, List.length_nil, List.length_range, List.length_set, List.length_reverse, iL_len, Zc.rowsT_len, Zc.rowsL_len] at *; omega))
local macro_rules | `(tactic| walk_at "zz") => `(tactic| simp (disch := walk_at "zd") only [dgTup2_a, dgTup3_a, Bool.not_true, Bool.not_false, mul_lz, List.flatten_cons, List.flatten_nil, Int.reduceToNat, add_ll, pow10_12, pow10_18, pow10_39, pow10_41, pow10_59, pow10_60, mkLst_some, mkTup_some, List.length_cons, List.length_nil, Nat.zero_le, Nat.reduceAdd, Nat.reduceLeDiff, call1, callO1, call2, callO2, call3, callO3, call4, callO4, call5, callO5, call6, callO6, ap1_some, ap2_some, apN_some, apC_some, d1_a, d2_a, dN_a, aNil_a, aCons_a, dC_a, dVar_z, dVar_s, tDt_a, apAnd_t, apAnd_f, apOr_t, apOr_f, dAndT_a, dOrT_a, apNot_some, dNotT_a, apAndV_t, apAndV_f, dAndV_a, apOrV_t, apOrV_f, dOrV_a, apIf_t, apIf_f, dIf_a, apCh_t, apCh_f, apChain_some, dChain_a, apSeq_nx, apSeq_rt, apSeq_ct, apSeq_bk, sSeq_a, apIfS_t, apIfS_f, sIf_a, sNext_a, sCont_a, sBreak_a, apRet_some, sRet_a, apRetO_some, sRetO_a, sRetN_a, getO_z, getO_s, apRetV_some, sRetV_a, ltB_z, ltB_s, okSlot_s, apAsg_some, sAsg_a, dName_ok, apG_some, dgCons_a, dgNil_a, apAsgO_some, sAsgO_a, sApp_a, sSetI_a, apFor_some, sFor_a, dItems_a, dRng1_a, dRng2_a, apEn_some, apEn_tup, dEnum_a, sFrz_a, frzs_nil, frzs_cons, frzI_o, frzI_v, frzI_n, frzI_s, frz1_s, frzAll_nil, frzAll_o, frzAll_v, frzAll_n, peekT_a, apPk_int, apPk_bl, apPk_str, apPk_non, peekF_a, dCall_a, toO_o, dCallO_a, dMake_a, Wd_v, Wd_o, dSl_a, apSl_some, oNone_a, oSome_a, apO_some, add_ii, sub_ii, lt_ii, le_ii, gt_ii, ge_ii, eq_ii, ne_ii, neg_i, not_b, bl_b, tru_b, tru_i, tru_l, tru_t, tru_n, len_l, len_t, len_scr, abs_i, int_i, list_l, list_t, tuple_l, tuple_t, min_ii, max_ii, rev_l, items_l, items_t, iL_len, run_a, outW_rt, outW_nx, List.map_cons, List.map_nil, List.replicate, List.append_nil, List.cons_append, List.nil_append, List.set_cons_zero, List.set_cons_succ, Option.map_some, Int.reduceAdd, Int.reduceMul, Int.reduceSub, Int.reduceNeg, beq_self_eq_true, Bool.or_false, Bool.false_or, Bool.true_or, Bool.or_true, Bool.and_false, Bool.false_and, Bool.true_and, Bool.and_true, Zc.isi_ii, Zc.isi_ib, Zc.isi_tt, Zc.isi_ll, Zc.rowsT_len, Zc.rowsL_len, Zc.is_integer_call, Zc.ix_p0, Zc.ix_p1, apR1_any, Int.toNat_natCast, apR2_some, mod_ii, fdiv_ii, mul_small, apApp_some, ix_at, ix_atT, ix_atI, ix_atIT, ix_atR, ix_atRT, List.length_map, List.length_append, List.length_range, List.length_set, Option.map_none, Option.map_map, decide_true, decide_false, peekO_a, apPkO_i, frz_wo, frz_wv, frz_kk, wipeG_nil, wipeG_cons, orB_s, orB_t, orB_f, andB_s, andB_t, andB_f, orV_s, orV_t, orV_f, andV_s, andV_t, andV_f, apOr_b, apAnd_b, apOrV_b, apAndV_b, apCh_b, Zc.cut_from, Zc.cut_to, in_l, in_t, in_pr, eq_op_op, eq_op_pr, eq_pr_op, eq_pr_pr, ne_op_op, ne_op_pr, ne_pr_op, ne_pr_pr, isnt_op, is_op, pr_0, pr_1, st_0, st_1, inP_pr, ninP_pr, nin_l, isi_prt, len_pr, op_some, prD_eq, ix_lit2, ix_lit3, ix_lit4, ix_lit5, ix_lit6, ix_lit7, ix_lit8, ix_lit9, ix_lit10, ix_lit11, ix_lit12, ix_lit13, ix_lit14, ix_lit15, setI_i, setI_p, setI_o, setI_n, snoc_i, snoc_r, snoc_p, snoc_n, snoc_o, snoc_pp, snoc_s, eq_ol, ne_ol, eq_pl, ne_pl, eq_sl, ne_sl, eq_il, ne_il, eq_rl, ne_rl, eq_il1, isi_bb, eq_bb, ne_bb, eq_self, isi_call, Int.reduceBEq, Bool.not_true, Bool.not_false, if_true, sOf_if, ns_0, ns_n, ns_v, ns_l, ns_mv, ns_ml])
local macro_rules | `(tactic| walk_at "zf") => `(tactic| first | (walk_at "zz"; done) | (walk_at "zz"; rfl) | rfl)
local macro_rules | `(tactic| walk_at "lc") => `(tactic| ((case hf => rfl); (case hi => first | (walk_at "zz"; done) | (walk_at "zz"; rfl) | rfl); (case hl => walk_at "zd"); (case h => (intro a ha; refine ⟨_, dName_ok rfl, ?_, fun hT => ?_⟩ <;> walk_at "zz" <;> rfl))))
local macro_rules | `(tactic| walk_at "lm") => `(tactic| ((case hf => rfl); (case hi => first | (walk_at "zz"; done) | (walk_at "zz"; rfl) | rfl); (case hl => walk_at "zd"); (case h => (intro a ha; refine ⟨_, dName_ok rfl, ?_⟩; walk_at "zz"; rfl))))
variable {caps : List Int} {hs : List (List Int)} {m : Nat}
theorem rev_iL {ws : List Int} : (iL ws).reverse = iL ws.reverse := by unfold iL; rw [List.map_reverse]
theorem lotG_len (ok : PoolOk caps hs m) (hm : m ≤ 60) (R : List Int) : (lotG caps hs R).length ≤ 100 := by
  have := (Zc.Asc.hold (pickI_asc hs.length (Zu.greedy (Zu.IndP caps hs) R))).len
  have := ok.pm
  unfold lotG
  omega
/-- the lots of the first pool: none is better -/
theorem best_spec (cc : Zc.Cs) (ok : PoolOk caps hs m) (hm : m ≤ 60) {ws R : List Int} (hl : ws.length = hs.length) (h0 : ∀ x ∈ ws, 0 ≤ x ∧ x ≤ 10 ^ 39) (hR : Zu.Row ws R ws.length) {T : Nat → Bool} (hT : Zu.IndP caps hs T) :
    g_law_is_best [.lst (iL ws), .lst (iL (lotG caps hs R)), .lst (iL (pickI hs.length T))] = some (.v (.bl true)) :=
  is_best_spec (by have := ok.pm; omega) hl h0 fun w => Zu.greedy_best cc ok hm hR.pw (fun n hn => (hR.all _).mpr (by omega)) (fun x hx => (hR.mem x hx).1) hT w
theorem main : ∀ (c : Cs) (ns : List Int), ns.length ≤ 63 → g_law c [.scr ns] = some (.v (.bl true)) := by
  intro c ns hn
  obtain ⟨a0, ea0⟩ := cell_any ns 0 (by decide) hn
  obtain ⟨a3, ea3⟩ := cell_any ns 3 (by decide) hn
  obtain ⟨a6, ea6⟩ := cell_any ns 6 (by decide) hn
  obtain ⟨a7, ea7⟩ := cell_any ns 7 (by decide) hn
  obtain ⟨w, e1, caps, hs, rfl, ok, _⟩ := Zc.pool_spec5 a0 6 (by decide)
  replace e1 : Zc.g_law_pool [.int a0, .int 6] = some (.v (.tup [.lst (iL caps), .lst (rowsL hs)])) := e1
  have hpm := ok.pm
  obtain ⟨ws, e2, hl, hw⟩ := worths_spec (ns := ns) 1 (by decide) hn hs.length (by omega)
  obtain ⟨R, _, hR⟩ := order_spec (ws := ws) (by omega)
  obtain ⟨R', _, hR'⟩ := order_spec (ws := ws.reverse) (by rw [List.length_reverse]; omega)
  have hl' : ws.reverse.length = hs.length := by rw [List.length_reverse, hl]
  have e3 := dealable_spec ⟨c.Pool⟩ ok (by decide) (by omega)
  have e4 := collected_spec (caps := caps) (by omega) hl hR
  have e5 := collected_spec (caps := caps) (by omega) hl' hR'
  have b4 := best_lot_spec c ok (by decide) hl hR
  have b5 := best_lot_spec c ok (by decide) hl' hR'
  have hb := fun (T : Nat → Bool) (hT : Zu.IndP caps hs T) => best_spec ⟨c.Pool⟩ ok (by decide) hl hw hR hT
  have hll := fun R => lotG_len ok (by decide) R
  have e6 : g_law_is_right c [.lst (iL caps), .lst (rowsL hs), .lst [.tup [.lst (iL ws), .lst (iL (lotG caps hs R))], .tup [.lst (iL ws.reverse), .lst (iL (lotG caps hs R'))], .tup [.lst (iL ws), .lst (iL (lotG caps hs R))]]] = some (.v (.bl true)) := is_right_spec c ok (by decide) (asked := [(ws, lotG caps hs R), (ws.reverse, lotG caps hs R'), (ws, lotG caps hs R)]) (by simp) fun o ho => by
    simp only [List.mem_cons, List.not_mem_nil, or_false] at ho
    rcases ho with rfl | rfl | rfl
    · exact ⟨by dsimp only; omega, hll _, b4⟩
    · exact ⟨by dsimp only; omega, hll _, b5⟩
    · exact ⟨by dsimp only; omega, hll _, b4⟩
  unfold g_law t_law
  walk_at "zz"
  rw [ea0]
  walk_at "zz"
  rw [e_law_pool, e1]
  walk_at "zz"
  rw [e2]
  walk_at "zz"
  rw [rev_iL, e3]
  walk_at "zz"
  rw [e4]
  walk_at "zz"
  rw [e5]
  walk_at "zz"
  rw [e6]
  walk_at "zz"
  rw [e_law_lots, law_lots_spec _ (by omega)]
  walk_at "zz"
  have h64 : 2 ^ hs.length ≤ 2 ^ 6 := Nat.pow_le_pow_right (by omega) hpm
  have hll' : (lotsL hs.length).length = 2 ^ hs.length := lotsL_len _
  have hdl : (dealB caps hs).length = 2 ^ hs.length := by unfold dealB; rw [List.length_map, List.length_range]
  have hfor : ∀ k : Nat, k < 2 ^ hs.length → at_ (dealB caps hs) (k : Int) = indB caps hs k ∧ at_ (lotsL hs.length) (k : Int) = pickI hs.length fun i => k.testBit i := fun k hk =>
    ⟨at_eq rfl (by unfold dealB; rw [List.getElem?_map, List.getElem?_range hk]; rfl), at_eq rfl (Zu.lot_bit _ hpm k hk)⟩
  walk_at "zz"
  refine rng_then (C := fun o => outW o = _) (fun k g => ∃ k8 : Option D, g = [some (.v (.scr ns)), some (.v (.lst (iL caps))), some (.v (.lst (rowsL hs))), some (.v (.lst (iL ws))), some (.v (.lst (iL ws.reverse))), some (.v (.lst ((dealB caps hs).map D.bl))), some (.v (.lst (iL (lotG caps hs R)))), some (.v (.lst (rowsL (lotsL hs.length)))), k8.map Wd.v, none, none, none]) ⟨none, rfl⟩ ?_ ?_ ?_
  · rintro k g ⟨k8, rfl⟩
    rfl
  · rintro k g hk ⟨k8, rfl⟩
    have hk : k < 2 ^ hs.length := by omega
    obtain ⟨f1, f2⟩ := hfor k hk
    show StepTo (sIf _ _ _ [some (.v (.scr ns)), some (.v (.lst (iL caps))), some (.v (.lst (rowsL hs))), some (.v (.lst (iL ws))), some (.v (.lst (iL ws.reverse))), some (.v (.lst ((dealB caps hs).map D.bl))), some (.v (.lst (iL (lotG caps hs R)))), some (.v (.lst (rowsL (lotsL hs.length)))), some (.v (.int (k : Int))), none, none, none]) _
    walk_at "zz"
    rw [f1, f2]
    cases hB : indB caps hs k with
    | true =>
      rw [hb _ (indB_iff.mp hB)]
      walk_at "zz"
      exact step_nx ⟨some (.int (k : Int)), rfl⟩
    | false =>
      walk_at "zz"
      exact step_nx ⟨some (.int (k : Int)), rfl⟩
  · rintro g ⟨k8, rfl⟩
    obtain ⟨w, f1, ds, rfl, hb2⟩ := Zc.draws_spec a6 [2] (by intro s hs; simp only [List.mem_cons, List.not_mem_nil, or_false] at hs; omega) (by decide)
    have hdl2 : ds.length = 1 := hb2.len
    replace f1 : Zc.g_law_draws [.int a6, .lst [.int 2]] = some (.o (.lst (iL ds))) := f1
    walk_at "zz"
    rw [ea6]
    walk_at "zz"
    rw [e_law_draws, f1]
    walk_at "zz"
    refine if_cut (C := fun o => outW o = _) (fun _ => ?_) (fun _ => ?_)
    · obtain ⟨caps2, hs2, g1, ok2, ap⟩ := apart_spec a3
      have hpm2 := ok2.pm
      obtain ⟨ws2, g2, hl2, hw2⟩ := worths_spec (ns := ns) 4 (by decide) hn hs2.length (by omega)
      obtain ⟨R2, _, hR2⟩ := order_spec (ws := ws2) (by omega)
      have g3 := collected_apart_spec ok2 (by decide) ap hl2 hR2
      have g4 : g_law_is_right c [.lst (iL caps2), .lst (rowsL hs2), .lst [.tup [.lst (iL ws2), .lst (iL (lotG caps2 hs2 R2))]]] = some (.v (.bl true)) := is_right_spec c ok2 (by decide) (asked := [(ws2, lotG caps2 hs2 R2)]) (by simp) fun o ho => by
        rw [List.mem_singleton.mp ho]
        exact ⟨by dsimp only; omega, lotG_len ok2 (by decide) _, best_lot_spec c ok2 (by decide) hl2 hR2⟩
      walk_at "zz"
      rw [ea3]
      walk_at "zz"
      rw [g1]
      walk_at "zz"
      rw [g2]
      walk_at "zz"
      rw [g3]
      walk_at "zz"
      rw [g4]
      walk_at "zz"
    · obtain ⟨w, g1, ca, ha, rfl, oka, ha5, _⟩ := Zc.pool_spec5 (a3 + 5) 6 (by decide)
      obtain ⟨w, g2, cb, hb', rfl, okb, hb5, _⟩ := Zc.pool_spec5 (a7 + 11) 6 (by decide)
      replace g1 : Zc.g_law_pool [.int (a3 + 5), .int 6] = some (.v (grp ca ha)) := g1
      replace g2 : Zc.g_law_pool [.int (a7 + 11), .int 6] = some (.v (grp cb hb')) := g2
      obtain ⟨O, g3, J, hO⟩ := joined_spec oka okb (by decide)
      have hpa := oka.pm
      have hpb := okb.pm
      have okJ := pool_join oka okb ha5 hb5 J hO (by decide)
      have hN : (O.map (rowJ ha hb' (ca.length : Int))).length = O.length := List.length_map _
      obtain ⟨ws2, g4, hl2, hw2⟩ := worths_spec (ns := ns) 4 (by decide) hn (O.map (rowJ ha hb' (ca.length : Int))).length (by omega)
      obtain ⟨R2, _, hR2⟩ := order_spec (ws := ws2) (by omega)
      obtain ⟨R3, _, hR3⟩ := order_spec (ws := ws2.reverse) (by rw [List.length_reverse]; omega)
      have hl3 : ws2.reverse.length = (O.map (rowJ ha hb' (ca.length : Int))).length := by rw [List.length_reverse, hl2]
      have g5 := in_groups_spec ⟨c.Pool⟩ oka okb ha5 hb5 (by decide) J hO (by rw [hl2, hN]) hR2
      have g6 := in_groups_spec ⟨c.Pool⟩ oka okb ha5 hb5 (by decide) J hO (by rw [hl3, hN]) hR3
      have hll2 := fun R => lotG_len okJ (by decide) R
      have b6 := best_lot_spec c okJ (by decide) hl2 hR2
      have b7 := best_lot_spec c okJ (by decide) hl3 hR3
      generalize O.map (rowJ ha hb' (ca.length : Int)) = hj at *
      have g7 : g_law_is_right c [.lst (iL (ca ++ cb)), .lst (rowsL hj), .lst [.tup [.lst (iL ws2), .lst (iL (lotG (ca ++ cb) hj R2))], .tup [.lst (iL ws2.reverse), .lst (iL (lotG (ca ++ cb) hj R3))]]] = some (.v (.bl true)) := is_right_spec c okJ (by decide) (asked := [(ws2, lotG (ca ++ cb) hj R2), (ws2.reverse, lotG (ca ++ cb) hj R3)]) (by simp) fun o ho => by
        simp only [List.mem_cons, List.not_mem_nil, or_false] at ho
        rcases ho with rfl | rfl
        · exact ⟨by dsimp only; omega, hll2 _, b6⟩
        · exact ⟨by dsimp only; omega, hll2 _, b7⟩
      walk_at "zz"
      rw [ea3]
      walk_at "zz"
      rw [ea7]
      walk_at "zz"
      rw [g1, g2]
      walk_at "zz"
      rw [show ixD (.lst [grp ca ha, grp cb hb']) (.int 0) = some (grp ca ha) from rfl, show ixD (.lst [grp ca ha, grp cb hb']) (.int 1) = some (grp cb hb') from rfl]
      walk_at "zz"
      rw [g3]
      walk_at "zz"
      rw [g4]
      walk_at "zz"
      rw [rev_iL, g5]
      walk_at "zz"
      rw [g6]
      walk_at "zz"
      rw [g7]
      walk_at "zz"
end Y
end

section
set_option Elab.async false
set_option linter.all false
set_option maxRecDepth 100000
set_option maxHeartbeats 4000000
namespace Y
open PySem L2 Zk
def spLawT (K : PySem.W.Frag) (TT : List (Addr × Str)) : Sp := fun vs H Q _ => ∃ (a : Addr) (ns : List Int), vs = [.ref a] ∧ SqL K H a (ns.map V.int) ∧ ns.length ≤ 63 ∧ LamX.Tabs TT H ∧ ∀ H', Q (.bl true) H'
theorem law_sp {P : Program} {w : World} {K : PySem.W.Frag} {mg : Str → Option Value} {base : Heap} (main : ∀ (c : Cs) (ns : List Int), ns.length ≤ 63 → g_law c [.scr ns] = some (.v (.bl true))) (T : Txt K mg) {P0 c0 : Addr} (TB : LamX.TabB base mg c0 P0) (hc0 : T.fd_best_lot.code = .ref c0) : FnOk P w K mg base CX0 9 T.f_law T.fd_law ["script"] (spLawT K [(P0, lamQ)]) := by
  refine (ok_law (P := P) (w := w) (base := base) T TB hc0).imp fun vs H Q E h => ?_
  obtain ⟨a, ns, rfl, hS, hl, tb, q⟩ := h
  refine ⟨fun _ => False, [.scr ns], .v (.bl true), rfl, fun _ z => z.elim, .cons ?_ .nil, main T.c ns hl, tb, fun v H' e t r => ?_⟩
  · rcases hS with h | h
    · exact .scr (fun z => z) h
    · exact .kscr fun G => .inr h
  · cases r; exact q H'
theorem all_mk {P0 c0 : Addr} {l : PySem.W.OpenLaw} {w : World} {K : PySem.W.Frag} {h : Heap} {mg : Str → Option Value} {fa C_Pool f_are_different f_Pool_init f_ordered_holders f_pair_room f_held_pairs f_pairs_with_room f_find_walk D_find_walk f_take_walk f_pieces_by_pair f_walk_to f_best_lot f_law_cell f_law_draws f_law_bits f_law_pairs f_law_pool f_law_lots f_law_places f_law_is_integer f_law_apart f_law_worths f_law_order f_law_dealable f_law_collected f_law_collected_apart f_law_is_best f_law_joined f_law_collected_in_groups f_law_is_right f_law : Addr} (main : ∀ (c : Cs) (ns : List Int), ns.length ≤ 63 → g_law c [.scr ns] = some (.v (.bl true))) (X : K.In h) (G : h.Ns mainGlobals mg) (hfa : mg "law" = some (.ref fa))
    {oc_are_different kV_are_different dc_are_different pm_are_different cd_are_different ct_are_different : Value} {od_are_different an_are_different : Option Addr} {sl_are_different : Array (Option Value)}
    {oc_Pool_init kV_Pool_init dc_Pool_init pm_Pool_init cd_Pool_init ct_Pool_init : Value} {od_Pool_init an_Pool_init : Option Addr} {sl_Pool_init : Array (Option Value)}
    {oc_ordered_holders kV_ordered_holders dc_ordered_holders pm_ordered_holders cd_ordered_holders ct_ordered_holders : Value} {od_ordered_holders an_ordered_holders : Option Addr} {sl_ordered_holders : Array (Option Value)}
    {oc_pair_room kV_pair_room dc_pair_room pm_pair_room cd_pair_room ct_pair_room : Value} {od_pair_room an_pair_room : Option Addr} {sl_pair_room : Array (Option Value)}
    {oc_held_pairs kV_held_pairs dc_held_pairs pm_held_pairs cd_held_pairs ct_held_pairs : Value} {od_held_pairs an_held_pairs : Option Addr} {sl_held_pairs : Array (Option Value)}
    {oc_pairs_with_room kV_pairs_with_room dc_pairs_with_room pm_pairs_with_room cd_pairs_with_room ct_pairs_with_room : Value} {od_pairs_with_room an_pairs_with_room : Option Addr} {sl_pairs_with_room : Array (Option Value)}
    {oc_find_walk  dc_find_walk pm_find_walk cd_find_walk ct_find_walk : Value} {od_find_walk an_find_walk : Option Addr} {sl_find_walk : Array (Option Value)}
    {oc_take_walk kV_take_walk dc_take_walk pm_take_walk cd_take_walk ct_take_walk : Value} {od_take_walk an_take_walk : Option Addr} {sl_take_walk : Array (Option Value)}
    {oc_pieces_by_pair kV_pieces_by_pair dc_pieces_by_pair pm_pieces_by_pair cd_pieces_by_pair ct_pieces_by_pair : Value} {od_pieces_by_pair an_pieces_by_pair : Option Addr} {sl_pieces_by_pair : Array (Option Value)}
    {oc_walk_to kV_walk_to dc_walk_to pm_walk_to cd_walk_to ct_walk_to : Value} {od_walk_to an_walk_to : Option Addr} {sl_walk_to : Array (Option Value)}
    {oc_best_lot kV_best_lot dc_best_lot pm_best_lot cd_best_lot ct_best_lot : Value} {od_best_lot an_best_lot : Option Addr} {sl_best_lot : Array (Option Value)}
    {oc_law_cell kV_law_cell dc_law_cell pm_law_cell cd_law_cell ct_law_cell : Value} {od_law_cell an_law_cell : Option Addr} {sl_law_cell : Array (Option Value)}
    {oc_law_draws kV_law_draws dc_law_draws pm_law_draws cd_law_draws ct_law_draws : Value} {od_law_draws an_law_draws : Option Addr} {sl_law_draws : Array (Option Value)}
    {oc_law_bits kV_law_bits dc_law_bits pm_law_bits cd_law_bits ct_law_bits : Value} {od_law_bits an_law_bits : Option Addr} {sl_law_bits : Array (Option Value)}
    {oc_law_pairs kV_law_pairs dc_law_pairs pm_law_pairs cd_law_pairs ct_law_pairs : Value} {od_law_pairs an_law_pairs : Option Addr} {sl_law_pairs : Array (Option Value)}
    {oc_law_pool kV_law_pool dc_law_pool pm_law_pool cd_law_pool ct_law_pool : Value} {od_law_pool an_law_pool : Option Addr} {sl_law_pool : Array (Option Value)}
    {oc_law_lots kV_law_lots dc_law_lots pm_law_lots cd_law_lots ct_law_lots : Value} {od_law_lots an_law_lots : Option Addr} {sl_law_lots : Array (Option Value)}
    {oc_law_places kV_law_places dc_law_places pm_law_places cd_law_places ct_law_places : Value} {od_law_places an_law_places : Option Addr} {sl_law_places : Array (Option Value)}
    {oc_law_is_integer kV_law_is_integer dc_law_is_integer pm_law_is_integer cd_law_is_integer ct_law_is_integer : Value} {od_law_is_integer an_law_is_integer : Option Addr} {sl_law_is_integer : Array (Option Value)}
    {oc_law_apart kV_law_apart dc_law_apart pm_law_apart cd_law_apart ct_law_apart : Value} {od_law_apart an_law_apart : Option Addr} {sl_law_apart : Array (Option Value)}
    {oc_law_worths kV_law_worths dc_law_worths pm_law_worths cd_law_worths ct_law_worths : Value} {od_law_worths an_law_worths : Option Addr} {sl_law_worths : Array (Option Value)}
    {oc_law_order kV_law_order dc_law_order pm_law_order cd_law_order ct_law_order : Value} {od_law_order an_law_order : Option Addr} {sl_law_order : Array (Option Value)}
    {oc_law_dealable kV_law_dealable dc_law_dealable pm_law_dealable cd_law_dealable ct_law_dealable : Value} {od_law_dealable an_law_dealable : Option Addr} {sl_law_dealable : Array (Option Value)}
    {oc_law_collected kV_law_collected dc_law_collected pm_law_collected cd_law_collected ct_law_collected : Value} {od_law_collected an_law_collected : Option Addr} {sl_law_collected : Array (Option Value)}
    {oc_law_collected_apart kV_law_collected_apart dc_law_collected_apart pm_law_collected_apart cd_law_collected_apart ct_law_collected_apart : Value} {od_law_collected_apart an_law_collected_apart : Option Addr} {sl_law_collected_apart : Array (Option Value)}
    {oc_law_is_best kV_law_is_best dc_law_is_best pm_law_is_best cd_law_is_best ct_law_is_best : Value} {od_law_is_best an_law_is_best : Option Addr} {sl_law_is_best : Array (Option Value)}
    {oc_law_joined kV_law_joined dc_law_joined pm_law_joined cd_law_joined ct_law_joined : Value} {od_law_joined an_law_joined : Option Addr} {sl_law_joined : Array (Option Value)}
    {oc_law_collected_in_groups kV_law_collected_in_groups dc_law_collected_in_groups pm_law_collected_in_groups cd_law_collected_in_groups ct_law_collected_in_groups : Value} {od_law_collected_in_groups an_law_collected_in_groups : Option Addr} {sl_law_collected_in_groups : Array (Option Value)}
    {oc_law_is_right kV_law_is_right dc_law_is_right pm_law_is_right cd_law_is_right ct_law_is_right : Value} {od_law_is_right an_law_is_right : Option Addr} {sl_law_is_right : Array (Option Value)}
    {oc_law kV_law dc_law pm_law cd_law ct_law : Value} {od_law an_law : Option Addr} {sl_law : Array (Option Value)}
    (z_abs : PySem.W.nsIn K mainGlobals "abs" = some none)
    (z_all : PySem.W.nsIn K mainGlobals "all" = some none)
    (z_bool : PySem.W.nsIn K mainGlobals "bool" = some none)
    (z_enumerate : PySem.W.nsIn K mainGlobals "enumerate" = some none)
    (z_int : PySem.W.nsIn K mainGlobals "int" = some none)
    (z_isinstance : PySem.W.nsIn K mainGlobals "isinstance" = some none)
    (z_len : PySem.W.nsIn K mainGlobals "len" = some none)
    (z_list : PySem.W.nsIn K mainGlobals "list" = some none)
    (z_max : PySem.W.nsIn K mainGlobals "max" = some none)
    (z_min : PySem.W.nsIn K mainGlobals "min" = some none)
    (z_range : PySem.W.nsIn K mainGlobals "range" = some none)
    (z_reversed : PySem.W.nsIn K mainGlobals "reversed" = some none)
    (z_set : PySem.W.nsIn K mainGlobals "set" = some none)
    (z_sorted : PySem.W.nsIn K mainGlobals "sorted" = some none)
    (z_sum : PySem.W.nsIn K mainGlobals "sum" = some none)
    (z_tuple : PySem.W.nsIn K mainGlobals "tuple" = some none)
    (aC_Pool : PySem.W.nsIn K mainGlobals "Pool" = some (some (.ref C_Pool)))
    (pg_Pool : PySem.W.plainGet K C_Pool Str.empty = true)
    (hd_Pool : PySem.W.hasDictIn K C_Pool = true)
    (po_Pool : PySem.W.plainOver K C_Pool = true)
    (sa_Pool : PySem.W.findIn K (.ref C_Pool) "__setattr__" = some (some (.builtin "object.__setattr__")))
    (mk_Pool : PySem.W.makesIn K C_Pool = true)
    (kc_Pool : PySem.W.keepIn K (.ref C_Pool) = true)
    (n_Pool_caps : PySem.W.findIn K (.ref C_Pool) "caps" = some none)
    (n_Pool_holders : PySem.W.findIn K (.ref C_Pool) "holders" = some none)
    (n_Pool_seats : PySem.W.findIn K (.ref C_Pool) "seats" = some none)
    (n_Pool_pieces : PySem.W.findIn K (.ref C_Pool) "pieces" = some none)
    (a_are_different : PySem.W.nsIn K mainGlobals "are_different" = some (some (.ref f_are_different)))
    (l_are_different : K.lookup f_are_different = some ⟨oc_are_different, od_are_different, .func (PySem.W.fnOf "are_different" "are_different" (defArgs s_are_different) (defBody s_are_different) (defScope s_are_different) .none kV_are_different dc_are_different pm_are_different an_are_different cd_are_different ct_are_different), sl_are_different⟩)
    (c_are_different : PySem.W.codeIn K cd_are_different "are_different" = true)
    (k_are_different : PySem.W.keepIn K (.ref f_are_different) = true)
    (a_Pool_init : PySem.W.findIn K (.ref C_Pool) "__init__" = some (some (.ref f_Pool_init)))
    (i_Pool_init : PySem.W.isFn K (.ref f_Pool_init) = true)
    (l_Pool_init : K.lookup f_Pool_init = some ⟨oc_Pool_init, od_Pool_init, .func (PySem.W.fnOf "__init__" "Pool.__init__" (defArgs s_Pool_init) (defBody s_Pool_init) (defScope s_Pool_init) .none kV_Pool_init dc_Pool_init pm_Pool_init an_Pool_init cd_Pool_init ct_Pool_init), sl_Pool_init⟩)
    (c_Pool_init : PySem.W.codeIn K cd_Pool_init "Pool.__init__" = true)
    (k_Pool_init : PySem.W.keepIn K (.ref f_Pool_init) = true)
    (a_ordered_holders : PySem.W.nsIn K mainGlobals "ordered_holders" = some (some (.ref f_ordered_holders)))
    (l_ordered_holders : K.lookup f_ordered_holders = some ⟨oc_ordered_holders, od_ordered_holders, .func (PySem.W.fnOf "ordered_holders" "ordered_holders" (defArgs s_ordered_holders) (defBody s_ordered_holders) (defScope s_ordered_holders) .none kV_ordered_holders dc_ordered_holders pm_ordered_holders an_ordered_holders cd_ordered_holders ct_ordered_holders), sl_ordered_holders⟩)
    (c_ordered_holders : PySem.W.codeIn K cd_ordered_holders "ordered_holders" = true)
    (k_ordered_holders : PySem.W.keepIn K (.ref f_ordered_holders) = true)
    (a_pair_room : PySem.W.nsIn K mainGlobals "pair_room" = some (some (.ref f_pair_room)))
    (l_pair_room : K.lookup f_pair_room = some ⟨oc_pair_room, od_pair_room, .func (PySem.W.fnOf "pair_room" "pair_room" (defArgs s_pair_room) (defBody s_pair_room) (defScope s_pair_room) .none kV_pair_room dc_pair_room pm_pair_room an_pair_room cd_pair_room ct_pair_room), sl_pair_room⟩)
    (c_pair_room : PySem.W.codeIn K cd_pair_room "pair_room" = true)
    (k_pair_room : PySem.W.keepIn K (.ref f_pair_room) = true)
    (a_held_pairs : PySem.W.nsIn K mainGlobals "held_pairs" = some (some (.ref f_held_pairs)))
    (l_held_pairs : K.lookup f_held_pairs = some ⟨oc_held_pairs, od_held_pairs, .func (PySem.W.fnOf "held_pairs" "held_pairs" (defArgs s_held_pairs) (defBody s_held_pairs) (defScope s_held_pairs) .none kV_held_pairs dc_held_pairs pm_held_pairs an_held_pairs cd_held_pairs ct_held_pairs), sl_held_pairs⟩)
    (c_held_pairs : PySem.W.codeIn K cd_held_pairs "held_pairs" = true)
    (k_held_pairs : PySem.W.keepIn K (.ref f_held_pairs) = true)
    (a_pairs_with_room : PySem.W.nsIn K mainGlobals "pairs_with_room" = some (some (.ref f_pairs_with_room)))
    (l_pairs_with_room : K.lookup f_pairs_with_room = some ⟨oc_pairs_with_room, od_pairs_with_room, .func (PySem.W.fnOf "pairs_with_room" "pairs_with_room" (defArgs s_pairs_with_room) (defBody s_pairs_with_room) (defScope s_pairs_with_room) .none kV_pairs_with_room dc_pairs_with_room pm_pairs_with_room an_pairs_with_room cd_pairs_with_room ct_pairs_with_room), sl_pairs_with_room⟩)
    (c_pairs_with_room : PySem.W.codeIn K cd_pairs_with_room "pairs_with_room" = true)
    (k_pairs_with_room : PySem.W.keepIn K (.ref f_pairs_with_room) = true)
    (a_find_walk : PySem.W.nsIn K mainGlobals "find_walk" = some (some (.ref f_find_walk)))
    (l_find_walk : K.lookup f_find_walk = some ⟨oc_find_walk, od_find_walk, .func (PySem.W.fnOf "find_walk" "find_walk" (defArgs s_find_walk) (defBody s_find_walk) (defScope s_find_walk) .none (.ref D_find_walk) dc_find_walk pm_find_walk an_find_walk cd_find_walk ct_find_walk), sl_find_walk⟩)
    (c_find_walk : PySem.W.codeIn K cd_find_walk "find_walk" = true)
    (k_find_walk : PySem.W.keepIn K (.ref f_find_walk) = true)
    (kd_find_walk : PySem.W.nsIn K D_find_walk "pieces" = some (some .none))
    (a_take_walk : PySem.W.nsIn K mainGlobals "take_walk" = some (some (.ref f_take_walk)))
    (l_take_walk : K.lookup f_take_walk = some ⟨oc_take_walk, od_take_walk, .func (PySem.W.fnOf "take_walk" "take_walk" (defArgs s_take_walk) (defBody s_take_walk) (defScope s_take_walk) .none kV_take_walk dc_take_walk pm_take_walk an_take_walk cd_take_walk ct_take_walk), sl_take_walk⟩)
    (c_take_walk : PySem.W.codeIn K cd_take_walk "take_walk" = true)
    (k_take_walk : PySem.W.keepIn K (.ref f_take_walk) = true)
    (a_pieces_by_pair : PySem.W.nsIn K mainGlobals "_pieces_by_pair" = some (some (.ref f_pieces_by_pair)))
    (l_pieces_by_pair : K.lookup f_pieces_by_pair = some ⟨oc_pieces_by_pair, od_pieces_by_pair, .func (PySem.W.fnOf "_pieces_by_pair" "_pieces_by_pair" (defArgs s_pieces_by_pair) (defBody s_pieces_by_pair) (defScope s_pieces_by_pair) .none kV_pieces_by_pair dc_pieces_by_pair pm_pieces_by_pair an_pieces_by_pair cd_pieces_by_pair ct_pieces_by_pair), sl_pieces_by_pair⟩)
    (c_pieces_by_pair : PySem.W.codeIn K cd_pieces_by_pair "_pieces_by_pair" = true)
    (k_pieces_by_pair : PySem.W.keepIn K (.ref f_pieces_by_pair) = true)
    (a_walk_to : PySem.W.nsIn K mainGlobals "_walk_to" = some (some (.ref f_walk_to)))
    (l_walk_to : K.lookup f_walk_to = some ⟨oc_walk_to, od_walk_to, .func (PySem.W.fnOf "_walk_to" "_walk_to" (defArgs s_walk_to) (defBody s_walk_to) (defScope s_walk_to) .none kV_walk_to dc_walk_to pm_walk_to an_walk_to cd_walk_to ct_walk_to), sl_walk_to⟩)
    (c_walk_to : PySem.W.codeIn K cd_walk_to "_walk_to" = true)
    (k_walk_to : PySem.W.keepIn K (.ref f_walk_to) = true)
    (a_best_lot : PySem.W.nsIn K mainGlobals "best_lot" = some (some (.ref f_best_lot)))
    (l_best_lot : K.lookup f_best_lot = some ⟨oc_best_lot, od_best_lot, .func (PySem.W.fnOf "best_lot" "best_lot" (defArgs s_best_lot) (defBody s_best_lot) (defScope s_best_lot) .none kV_best_lot dc_best_lot pm_best_lot an_best_lot cd_best_lot ct_best_lot), sl_best_lot⟩)
    (c_best_lot : PySem.W.codeIn K cd_best_lot "best_lot" = true)
    (k_best_lot : PySem.W.keepIn K (.ref f_best_lot) = true)
    (a_law_cell : PySem.W.nsIn K mainGlobals "_law_cell" = some (some (.ref f_law_cell)))
    (l_law_cell : K.lookup f_law_cell = some ⟨oc_law_cell, od_law_cell, .func (PySem.W.fnOf "_law_cell" "_law_cell" (defArgs s_law_cell) (defBody s_law_cell) (defScope s_law_cell) .none kV_law_cell dc_law_cell pm_law_cell an_law_cell cd_law_cell ct_law_cell), sl_law_cell⟩)
    (c_law_cell : PySem.W.codeIn K cd_law_cell "_law_cell" = true)
    (k_law_cell : PySem.W.keepIn K (.ref f_law_cell) = true)
    (a_law_draws : PySem.W.nsIn K mainGlobals "_law_draws" = some (some (.ref f_law_draws)))
    (l_law_draws : K.lookup f_law_draws = some ⟨oc_law_draws, od_law_draws, .func (PySem.W.fnOf "_law_draws" "_law_draws" (defArgs s_law_draws) (defBody s_law_draws) (defScope s_law_draws) .none kV_law_draws dc_law_draws pm_law_draws an_law_draws cd_law_draws ct_law_draws), sl_law_draws⟩)
    (c_law_draws : PySem.W.codeIn K cd_law_draws "_law_draws" = true)
    (k_law_draws : PySem.W.keepIn K (.ref f_law_draws) = true)
    (a_law_bits : PySem.W.nsIn K mainGlobals "_law_bits" = some (some (.ref f_law_bits)))
    (l_law_bits : K.lookup f_law_bits = some ⟨oc_law_bits, od_law_bits, .func (PySem.W.fnOf "_law_bits" "_law_bits" (defArgs s_law_bits) (defBody s_law_bits) (defScope s_law_bits) .none kV_law_bits dc_law_bits pm_law_bits an_law_bits cd_law_bits ct_law_bits), sl_law_bits⟩)
    (c_law_bits : PySem.W.codeIn K cd_law_bits "_law_bits" = true)
    (k_law_bits : PySem.W.keepIn K (.ref f_law_bits) = true)
    (a_law_pairs : PySem.W.nsIn K mainGlobals "_law_pairs" = some (some (.ref f_law_pairs)))
    (l_law_pairs : K.lookup f_law_pairs = some ⟨oc_law_pairs, od_law_pairs, .func (PySem.W.fnOf "_law_pairs" "_law_pairs" (defArgs s_law_pairs) (defBody s_law_pairs) (defScope s_law_pairs) .none kV_law_pairs dc_law_pairs pm_law_pairs an_law_pairs cd_law_pairs ct_law_pairs), sl_law_pairs⟩)
    (c_law_pairs : PySem.W.codeIn K cd_law_pairs "_law_pairs" = true)
    (k_law_pairs : PySem.W.keepIn K (.ref f_law_pairs) = true)
    (a_law_pool : PySem.W.nsIn K mainGlobals "_law_pool" = some (some (.ref f_law_pool)))
    (l_law_pool : K.lookup f_law_pool = some ⟨oc_law_pool, od_law_pool, .func (PySem.W.fnOf "_law_pool" "_law_pool" (defArgs s_law_pool) (defBody s_law_pool) (defScope s_law_pool) .none kV_law_pool dc_law_pool pm_law_pool an_law_pool cd_law_pool ct_law_pool), sl_law_pool⟩)
    (c_law_pool : PySem.W.codeIn K cd_law_pool "_law_pool" = true)
    (k_law_pool : PySem.W.keepIn K (.ref f_law_pool) = true)
    (a_law_lots : PySem.W.nsIn K mainGlobals "_law_lots" = some (some (.ref f_law_lots)))
    (l_law_lots : K.lookup f_law_lots = some ⟨oc_law_lots, od_law_lots, .func (PySem.W.fnOf "_law_lots" "_law_lots" (defArgs s_law_lots) (defBody s_law_lots) (defScope s_law_lots) .none kV_law_lots dc_law_lots pm_law_lots an_law_lots cd_law_lots ct_law_lots), sl_law_lots⟩)
    (c_law_lots : PySem.W.codeIn K cd_law_lots "_law_lots" = true)
    (k_law_lots : PySem.W.keepIn K (.ref f_law_lots) = true)
    (a_law_places : PySem.W.nsIn K mainGlobals "_law_places" = some (some (.ref f_law_places)))
    (l_law_places : K.lookup f_law_places = some ⟨oc_law_places, od_law_places, .func (PySem.W.fnOf "_law_places" "_law_places" (defArgs s_law_places) (defBody s_law_places) (defScope s_law_places) .none kV_law_places dc_law_places pm_law_places an_law_places cd_law_places ct_law_places), sl_law_places⟩)
    (c_law_places : PySem.W.codeIn K cd_law_places "_law_places" = true)
    (k_law_places : PySem.W.keepIn K (.ref f_law_places) = true)
    (a_law_is_integer : PySem.W.nsIn K mainGlobals "_law_is_integer" = some (some (.ref f_law_is_integer)))
    (l_law_is_integer : K.lookup f_law_is_integer = some ⟨oc_law_is_integer, od_law_is_integer, .func (PySem.W.fnOf "_law_is_integer" "_law_is_integer" (defArgs s_law_is_integer) (defBody s_law_is_integer) (defScope s_law_is_integer) .none kV_law_is_integer dc_law_is_integer pm_law_is_integer an_law_is_integer cd_law_is_integer ct_law_is_integer), sl_law_is_integer⟩)
    (c_law_is_integer : PySem.W.codeIn K cd_law_is_integer "_law_is_integer" = true)
    (k_law_is_integer : PySem.W.keepIn K (.ref f_law_is_integer) = true)
    (a_law_apart : PySem.W.nsIn K mainGlobals "_law_apart" = some (some (.ref f_law_apart)))
    (l_law_apart : K.lookup f_law_apart = some ⟨oc_law_apart, od_law_apart, .func (PySem.W.fnOf "_law_apart" "_law_apart" (defArgs s_law_apart) (defBody s_law_apart) (defScope s_law_apart) .none kV_law_apart dc_law_apart pm_law_apart an_law_apart cd_law_apart ct_law_apart), sl_law_apart⟩)
    (c_law_apart : PySem.W.codeIn K cd_law_apart "_law_apart" = true)
    (k_law_apart : PySem.W.keepIn K (.ref f_law_apart) = true)
    (a_law_worths : PySem.W.nsIn K mainGlobals "_law_worths" = some (some (.ref f_law_worths)))
    (l_law_worths : K.lookup f_law_worths = some ⟨oc_law_worths, od_law_worths, .func (PySem.W.fnOf "_law_worths" "_law_worths" (defArgs s_law_worths) (defBody s_law_worths) (defScope s_law_worths) .none kV_law_worths dc_law_worths pm_law_worths an_law_worths cd_law_worths ct_law_worths), sl_law_worths⟩)
    (c_law_worths : PySem.W.codeIn K cd_law_worths "_law_worths" = true)
    (k_law_worths : PySem.W.keepIn K (.ref f_law_worths) = true)
    (a_law_order : PySem.W.nsIn K mainGlobals "_law_order" = some (some (.ref f_law_order)))
    (l_law_order : K.lookup f_law_order = some ⟨oc_law_order, od_law_order, .func (PySem.W.fnOf "_law_order" "_law_order" (defArgs s_law_order) (defBody s_law_order) (defScope s_law_order) .none kV_law_order dc_law_order pm_law_order an_law_order cd_law_order ct_law_order), sl_law_order⟩)
    (c_law_order : PySem.W.codeIn K cd_law_order "_law_order" = true)
    (k_law_order : PySem.W.keepIn K (.ref f_law_order) = true)
    (a_law_dealable : PySem.W.nsIn K mainGlobals "_law_dealable" = some (some (.ref f_law_dealable)))
    (l_law_dealable : K.lookup f_law_dealable = some ⟨oc_law_dealable, od_law_dealable, .func (PySem.W.fnOf "_law_dealable" "_law_dealable" (defArgs s_law_dealable) (defBody s_law_dealable) (defScope s_law_dealable) .none kV_law_dealable dc_law_dealable pm_law_dealable an_law_dealable cd_law_dealable ct_law_dealable), sl_law_dealable⟩)
    (c_law_dealable : PySem.W.codeIn K cd_law_dealable "_law_dealable" = true)
    (k_law_dealable : PySem.W.keepIn K (.ref f_law_dealable) = true)
    (a_law_collected : PySem.W.nsIn K mainGlobals "_law_collected" = some (some (.ref f_law_collected)))
    (l_law_collected : K.lookup f_law_collected = some ⟨oc_law_collected, od_law_collected, .func (PySem.W.fnOf "_law_collected" "_law_collected" (defArgs s_law_collected) (defBody s_law_collected) (defScope s_law_collected) .none kV_law_collected dc_law_collected pm_law_collected an_law_collected cd_law_collected ct_law_collected), sl_law_collected⟩)
    (c_law_collected : PySem.W.codeIn K cd_law_collected "_law_collected" = true)
    (k_law_collected : PySem.W.keepIn K (.ref f_law_collected) = true)
    (a_law_collected_apart : PySem.W.nsIn K mainGlobals "_law_collected_apart" = some (some (.ref f_law_collected_apart)))
    (l_law_collected_apart : K.lookup f_law_collected_apart = some ⟨oc_law_collected_apart, od_law_collected_apart, .func (PySem.W.fnOf "_law_collected_apart" "_law_collected_apart" (defArgs s_law_collected_apart) (defBody s_law_collected_apart) (defScope s_law_collected_apart) .none kV_law_collected_apart dc_law_collected_apart pm_law_collected_apart an_law_collected_apart cd_law_collected_apart ct_law_collected_apart), sl_law_collected_apart⟩)
    (c_law_collected_apart : PySem.W.codeIn K cd_law_collected_apart "_law_collected_apart" = true)
    (k_law_collected_apart : PySem.W.keepIn K (.ref f_law_collected_apart) = true)
    (a_law_is_best : PySem.W.nsIn K mainGlobals "_law_is_best" = some (some (.ref f_law_is_best)))
    (l_law_is_best : K.lookup f_law_is_best = some ⟨oc_law_is_best, od_law_is_best, .func (PySem.W.fnOf "_law_is_best" "_law_is_best" (defArgs s_law_is_best) (defBody s_law_is_best) (defScope s_law_is_best) .none kV_law_is_best dc_law_is_best pm_law_is_best an_law_is_best cd_law_is_best ct_law_is_best), sl_law_is_best⟩)
    (c_law_is_best : PySem.W.codeIn K cd_law_is_best "_law_is_best" = true)
    (k_law_is_best : PySem.W.keepIn K (.ref f_law_is_best) = true)
    (a_law_joined : PySem.W.nsIn K mainGlobals "_law_joined" = some (some (.ref f_law_joined)))
    (l_law_joined : K.lookup f_law_joined = some ⟨oc_law_joined, od_law_joined, .func (PySem.W.fnOf "_law_joined" "_law_joined" (defArgs s_law_joined) (defBody s_law_joined) (defScope s_law_joined) .none kV_law_joined dc_law_joined pm_law_joined an_law_joined cd_law_joined ct_law_joined), sl_law_joined⟩)
    (c_law_joined : PySem.W.codeIn K cd_law_joined "_law_joined" = true)
    (k_law_joined : PySem.W.keepIn K (.ref f_law_joined) = true)
    (a_law_collected_in_groups : PySem.W.nsIn K mainGlobals "_law_collected_in_groups" = some (some (.ref f_law_collected_in_groups)))
    (l_law_collected_in_groups : K.lookup f_law_collected_in_groups = some ⟨oc_law_collected_in_groups, od_law_collected_in_groups, .func (PySem.W.fnOf "_law_collected_in_groups" "_law_collected_in_groups" (defArgs s_law_collected_in_groups) (defBody s_law_collected_in_groups) (defScope s_law_collected_in_groups) .none kV_law_collected_in_groups dc_law_collected_in_groups pm_law_collected_in_groups an_law_collected_in_groups cd_law_collected_in_groups ct_law_collected_in_groups), sl_law_collected_in_groups⟩)
    (c_law_collected_in_groups : PySem.W.codeIn K cd_law_collected_in_groups "_law_collected_in_groups" = true)
    (k_law_collected_in_groups : PySem.W.keepIn K (.ref f_law_collected_in_groups) = true)
    (a_law_is_right : PySem.W.nsIn K mainGlobals "_law_is_right" = some (some (.ref f_law_is_right)))
    (l_law_is_right : K.lookup f_law_is_right = some ⟨oc_law_is_right, od_law_is_right, .func (PySem.W.fnOf "_law_is_right" "_law_is_right" (defArgs s_law_is_right) (defBody s_law_is_right) (defScope s_law_is_right) .none kV_law_is_right dc_law_is_right pm_law_is_right an_law_is_right cd_law_is_right ct_law_is_right), sl_law_is_right⟩)
    (c_law_is_right : PySem.W.codeIn K cd_law_is_right "_law_is_right" = true)
    (k_law_is_right : PySem.W.keepIn K (.ref f_law_is_right) = true)
    (a_law : PySem.W.nsIn K mainGlobals "law" = some (some (.ref f_law)))
    (l_law : K.lookup f_law = some ⟨oc_law, od_law, .func (PySem.W.fnOf "law" "law" (defArgs s_law) (defBody s_law) (defScope s_law) .none kV_law dc_law pm_law an_law cd_law ct_law), sl_law⟩)
    (c_law : PySem.W.codeIn K cd_law "law" = true)
    (k_law : PySem.W.keepIn K (.ref f_law) = true)
    (hcd0 : cd_best_lot = .ref c0) (hP0 : h.get? P0 = some { cls := .none, data := .fields #[] }) (hK0 : K.lookup P0 = none) (hC0 : PySem.W.CodeHd h c0 P0)
    : LamX.LawAtS l w K CX0 9 63 "script" mg fa h := by
  have e := hfa.symm.trans (PySem.W.mg_of X G a_law)
  cases e
  let T : Txt K mg := { c := ⟨C_Pool⟩, m_abs := PySem.W.mg_none_of X G z_abs, m_all := PySem.W.mg_none_of X G z_all, m_bool := PySem.W.mg_none_of X G z_bool, m_enumerate := PySem.W.mg_none_of X G z_enumerate, m_int := PySem.W.mg_none_of X G z_int, m_isinstance := PySem.W.mg_none_of X G z_isinstance, m_len := PySem.W.mg_none_of X G z_len, m_list := PySem.W.mg_none_of X G z_list, m_max := PySem.W.mg_none_of X G z_max, m_min := PySem.W.mg_none_of X G z_min, m_range := PySem.W.mg_none_of X G z_range, m_reversed := PySem.W.mg_none_of X G z_reversed, m_set := PySem.W.mg_none_of X G z_set, m_sorted := PySem.W.mg_none_of X G z_sorted, m_sum := PySem.W.mg_none_of X G z_sum, m_tuple := PySem.W.mg_none_of X G z_tuple, cl_Pool := ⟨pg_Pool, hd_Pool, po_Pool, sa_Pool⟩, c_Pool := PySem.W.mg_of X G aC_Pool, n_Pool_caps := n_Pool_caps, n_Pool_holders := n_Pool_holders, n_Pool_seats := n_Pool_seats, n_Pool_pieces := n_Pool_pieces, f_are_different := f_are_different, fd_are_different := _, F_are_different := fun_mk (st := s_are_different) l_are_different c_are_different k_are_different, b_are_different := (fun_mk (st := s_are_different) l_are_different c_are_different k_are_different).binds (ps := ["numbers", "limit"]) fun _ _ _ _ _ _ us hl => match us, hl with | [_, _], _ => rfl, g_are_different := PySem.W.mg_of X G a_are_different, f_Pool_init := f_Pool_init, fd_Pool_init := _, F_Pool_init := fun_mk (st := s_Pool_init) l_Pool_init c_Pool_init k_Pool_init, b_Pool_init := (fun_mk (st := s_Pool_init) l_Pool_init c_Pool_init k_Pool_init).binds (ps := ["self", "caps", "holders"]) fun _ _ _ _ _ _ us hl => match us, hl with | [_, _, _], _ => rfl, M_Pool := ⟨mk_Pool, a_Pool_init, i_Pool_init, kc_Pool⟩, f_ordered_holders := f_ordered_holders, fd_ordered_holders := _, F_ordered_holders := fun_mk (st := s_ordered_holders) l_ordered_holders c_ordered_holders k_ordered_holders, b_ordered_holders := (fun_mk (st := s_ordered_holders) l_ordered_holders c_ordered_holders k_ordered_holders).binds (ps := ["holders", "seats"]) fun _ _ _ _ _ _ us hl => match us, hl with | [_, _], _ => rfl, g_ordered_holders := PySem.W.mg_of X G a_ordered_holders, f_pair_room := f_pair_room, fd_pair_room := _, F_pair_room := fun_mk (st := s_pair_room) l_pair_room c_pair_room k_pair_room, b_pair_room := (fun_mk (st := s_pair_room) l_pair_room c_pair_room k_pair_room).binds (ps := ["pool", "pair"]) fun _ _ _ _ _ _ us hl => match us, hl with | [_, _], _ => rfl, g_pair_room := PySem.W.mg_of X G a_pair_room, f_held_pairs := f_held_pairs, fd_held_pairs := _, F_held_pairs := fun_mk (st := s_held_pairs) l_held_pairs c_held_pairs k_held_pairs, b_held_pairs := (fun_mk (st := s_held_pairs) l_held_pairs c_held_pairs k_held_pairs).binds (ps := ["pool", "piece"]) fun _ _ _ _ _ _ us hl => match us, hl with | [_, _], _ => rfl, g_held_pairs := PySem.W.mg_of X G a_held_pairs, f_pairs_with_room := f_pairs_with_room, fd_pairs_with_room := _, F_pairs_with_room := fun_mk (st := s_pairs_with_room) l_pairs_with_room c_pairs_with_room k_pairs_with_room, b_pairs_with_room := (fun_mk (st := s_pairs_with_room) l_pairs_with_room c_pairs_with_room k_pairs_with_room).binds (ps := ["pool", "seats"]) fun _ _ _ _ _ _ us hl => match us, hl with | [_, _], _ => rfl, g_pairs_with_room := PySem.W.mg_of X G a_pairs_with_room, f_find_walk := f_find_walk, fd_find_walk := _, F_find_walk := fun_mk (st := s_find_walk) l_find_walk c_find_walk k_find_walk, b_find_walk := FunD.binds0 (ps := ["pool", "dealing", "pieces"]) (funD_mk (st := s_find_walk) l_find_walk c_find_walk k_find_walk kd_find_walk) 2 (by simp) rfl (fun D doc pm an cdv ct us ks h1 h2 => match us, h1, ks, h2 with | [_, _], _, [_], _ => ⟨_, _, _, _, _, _, rfl, rfl, rfl⟩), kb_find_walk := ⟨fun s us ws _ hl => match us, ws, gApp_len (p := 2) hl with | [_, _], [_], _ => .of_eq rfl, gApp_rel⟩, g_find_walk := PySem.W.mg_of X G a_find_walk, f_take_walk := f_take_walk, fd_take_walk := _, F_take_walk := fun_mk (st := s_take_walk) l_take_walk c_take_walk k_take_walk, b_take_walk := (fun_mk (st := s_take_walk) l_take_walk c_take_walk k_take_walk).binds (ps := ["dealing", "walk"]) fun _ _ _ _ _ _ us hl => match us, hl with | [_, _], _ => rfl, g_take_walk := PySem.W.mg_of X G a_take_walk, f_pieces_by_pair := f_pieces_by_pair, fd_pieces_by_pair := _, F_pieces_by_pair := fun_mk (st := s_pieces_by_pair) l_pieces_by_pair c_pieces_by_pair k_pieces_by_pair, b_pieces_by_pair := (fun_mk (st := s_pieces_by_pair) l_pieces_by_pair c_pieces_by_pair k_pieces_by_pair).binds (ps := ["dealing"]) fun _ _ _ _ _ _ us hl => match us, hl with | [_], _ => rfl, g_pieces_by_pair := PySem.W.mg_of X G a_pieces_by_pair, f_walk_to := f_walk_to, fd_walk_to := _, F_walk_to := fun_mk (st := s_walk_to) l_walk_to c_walk_to k_walk_to, b_walk_to := (fun_mk (st := s_walk_to) l_walk_to c_walk_to k_walk_to).binds (ps := ["dealing", "takers", "pair"]) fun _ _ _ _ _ _ us hl => match us, hl with | [_, _, _], _ => rfl, g_walk_to := PySem.W.mg_of X G a_walk_to, f_best_lot := f_best_lot, fd_best_lot := _, F_best_lot := fun_mk (st := s_best_lot) l_best_lot c_best_lot k_best_lot, b_best_lot := (fun_mk (st := s_best_lot) l_best_lot c_best_lot k_best_lot).binds (ps := ["pool", "worths"]) fun _ _ _ _ _ _ us hl => match us, hl with | [_, _], _ => rfl, g_best_lot := PySem.W.mg_of X G a_best_lot, f_law_cell := f_law_cell, fd_law_cell := _, F_law_cell := fun_mk (st := s_law_cell) l_law_cell c_law_cell k_law_cell, b_law_cell := (fun_mk (st := s_law_cell) l_law_cell c_law_cell k_law_cell).binds (ps := ["script", "k"]) fun _ _ _ _ _ _ us hl => match us, hl with | [_, _], _ => rfl, g_law_cell := PySem.W.mg_of X G a_law_cell, f_law_draws := f_law_draws, fd_law_draws := _, F_law_draws := fun_mk (st := s_law_draws) l_law_draws c_law_draws k_law_draws, b_law_draws := (fun_mk (st := s_law_draws) l_law_draws c_law_draws k_law_draws).binds (ps := ["cell", "sizes"]) fun _ _ _ _ _ _ us hl => match us, hl with | [_, _], _ => rfl, g_law_draws := PySem.W.mg_of X G a_law_draws, f_law_bits := f_law_bits, fd_law_bits := _, F_law_bits := fun_mk (st := s_law_bits) l_law_bits c_law_bits k_law_bits, b_law_bits := (fun_mk (st := s_law_bits) l_law_bits c_law_bits k_law_bits).binds (ps := ["mask", "count"]) fun _ _ _ _ _ _ us hl => match us, hl with | [_, _], _ => rfl, g_law_bits := PySem.W.mg_of X G a_law_bits, f_law_pairs := f_law_pairs, fd_law_pairs := _, F_law_pairs := fun_mk (st := s_law_pairs) l_law_pairs c_law_pairs k_law_pairs, b_law_pairs := (fun_mk (st := s_law_pairs) l_law_pairs c_law_pairs k_law_pairs).binds (ps := ["seats"]) fun _ _ _ _ _ _ us hl => match us, hl with | [_], _ => rfl, g_law_pairs := PySem.W.mg_of X G a_law_pairs, f_law_pool := f_law_pool, fd_law_pool := _, F_law_pool := fun_mk (st := s_law_pool) l_law_pool c_law_pool k_law_pool, b_law_pool := (fun_mk (st := s_law_pool) l_law_pool c_law_pool k_law_pool).binds (ps := ["cell", "most"]) fun _ _ _ _ _ _ us hl => match us, hl with | [_, _], _ => rfl, g_law_pool := PySem.W.mg_of X G a_law_pool, f_law_lots := f_law_lots, fd_law_lots := _, F_law_lots := fun_mk (st := s_law_lots) l_law_lots c_law_lots k_law_lots, b_law_lots := (fun_mk (st := s_law_lots) l_law_lots c_law_lots k_law_lots).binds (ps := ["count"]) fun _ _ _ _ _ _ us hl => match us, hl with | [_], _ => rfl, g_law_lots := PySem.W.mg_of X G a_law_lots, f_law_places := f_law_places, fd_law_places := _, F_law_places := fun_mk (st := s_law_places) l_law_places c_law_places k_law_places, b_law_places := (fun_mk (st := s_law_places) l_law_places c_law_places k_law_places).binds (ps := ["caps", "holders", "lot"]) fun _ _ _ _ _ _ us hl => match us, hl with | [_, _, _], _ => rfl, g_law_places := PySem.W.mg_of X G a_law_places, f_law_is_integer := f_law_is_integer, fd_law_is_integer := _, F_law_is_integer := fun_mk (st := s_law_is_integer) l_law_is_integer c_law_is_integer k_law_is_integer, b_law_is_integer := (fun_mk (st := s_law_is_integer) l_law_is_integer c_law_is_integer k_law_is_integer).binds (ps := ["actual"]) fun _ _ _ _ _ _ us hl => match us, hl with | [_], _ => rfl, g_law_is_integer := PySem.W.mg_of X G a_law_is_integer, f_law_apart := f_law_apart, fd_law_apart := _, F_law_apart := fun_mk (st := s_law_apart) l_law_apart c_law_apart k_law_apart, b_law_apart := (fun_mk (st := s_law_apart) l_law_apart c_law_apart k_law_apart).binds (ps := ["cell"]) fun _ _ _ _ _ _ us hl => match us, hl with | [_], _ => rfl, g_law_apart := PySem.W.mg_of X G a_law_apart, f_law_worths := f_law_worths, fd_law_worths := _, F_law_worths := fun_mk (st := s_law_worths) l_law_worths c_law_worths k_law_worths, b_law_worths := (fun_mk (st := s_law_worths) l_law_worths c_law_worths k_law_worths).binds (ps := ["script", "k", "count"]) fun _ _ _ _ _ _ us hl => match us, hl with | [_, _, _], _ => rfl, g_law_worths := PySem.W.mg_of X G a_law_worths, f_law_order := f_law_order, fd_law_order := _, F_law_order := fun_mk (st := s_law_order) l_law_order c_law_order k_law_order, b_law_order := (fun_mk (st := s_law_order) l_law_order c_law_order k_law_order).binds (ps := ["worths"]) fun _ _ _ _ _ _ us hl => match us, hl with | [_], _ => rfl, g_law_order := PySem.W.mg_of X G a_law_order, f_law_dealable := f_law_dealable, fd_law_dealable := _, F_law_dealable := fun_mk (st := s_law_dealable) l_law_dealable c_law_dealable k_law_dealable, b_law_dealable := (fun_mk (st := s_law_dealable) l_law_dealable c_law_dealable k_law_dealable).binds (ps := ["caps", "holders"]) fun _ _ _ _ _ _ us hl => match us, hl with | [_, _], _ => rfl, g_law_dealable := PySem.W.mg_of X G a_law_dealable, f_law_collected := f_law_collected, fd_law_collected := _, F_law_collected := fun_mk (st := s_law_collected) l_law_collected c_law_collected k_law_collected, b_law_collected := (fun_mk (st := s_law_collected) l_law_collected c_law_collected k_law_collected).binds (ps := ["worths", "dealable"]) fun _ _ _ _ _ _ us hl => match us, hl with | [_, _], _ => rfl, g_law_collected := PySem.W.mg_of X G a_law_collected, f_law_collected_apart := f_law_collected_apart, fd_law_collected_apart := _, F_law_collected_apart := fun_mk (st := s_law_collected_apart) l_law_collected_apart c_law_collected_apart k_law_collected_apart, b_law_collected_apart := (fun_mk (st := s_law_collected_apart) l_law_collected_apart c_law_collected_apart k_law_collected_apart).binds (ps := ["caps", "holders", "worths"]) fun _ _ _ _ _ _ us hl => match us, hl with | [_, _, _], _ => rfl, g_law_collected_apart := PySem.W.mg_of X G a_law_collected_apart, f_law_is_best := f_law_is_best, fd_law_is_best := _, F_law_is_best := fun_mk (st := s_law_is_best) l_law_is_best c_law_is_best k_law_is_best, b_law_is_best := (fun_mk (st := s_law_is_best) l_law_is_best c_law_is_best k_law_is_best).binds (ps := ["worths", "best", "lot"]) fun _ _ _ _ _ _ us hl => match us, hl with | [_, _, _], _ => rfl, g_law_is_best := PySem.W.mg_of X G a_law_is_best, f_law_joined := f_law_joined, fd_law_joined := _, F_law_joined := fun_mk (st := s_law_joined) l_law_joined c_law_joined k_law_joined, b_law_joined := (fun_mk (st := s_law_joined) l_law_joined c_law_joined k_law_joined).binds (ps := ["first", "second"]) fun _ _ _ _ _ _ us hl => match us, hl with | [_, _], _ => rfl, g_law_joined := PySem.W.mg_of X G a_law_joined, f_law_collected_in_groups := f_law_collected_in_groups, fd_law_collected_in_groups := _, F_law_collected_in_groups := fun_mk (st := s_law_collected_in_groups) l_law_collected_in_groups c_law_collected_in_groups k_law_collected_in_groups, b_law_collected_in_groups := (fun_mk (st := s_law_collected_in_groups) l_law_collected_in_groups c_law_collected_in_groups k_law_collected_in_groups).binds (ps := ["groups", "owners", "worths"]) fun _ _ _ _ _ _ us hl => match us, hl with | [_, _, _], _ => rfl, g_law_collected_in_groups := PySem.W.mg_of X G a_law_collected_in_groups, f_law_is_right := f_law_is_right, fd_law_is_right := _, F_law_is_right := fun_mk (st := s_law_is_right) l_law_is_right c_law_is_right k_law_is_right, b_law_is_right := (fun_mk (st := s_law_is_right) l_law_is_right c_law_is_right k_law_is_right).binds (ps := ["caps", "holders", "asked"]) fun _ _ _ _ _ _ us hl => match us, hl with | [_, _, _], _ => rfl, g_law_is_right := PySem.W.mg_of X G a_law_is_right, f_law := fa, fd_law := _, F_law := fun_mk (st := s_law) l_law c_law k_law, b_law := (fun_mk (st := s_law) l_law c_law k_law).binds (ps := ["script"]) fun _ _ _ _ _ _ us hl => match us, hl with | [_], _ => rfl, g_law := PySem.W.mg_of X G a_law }
  exact ⟨T.fd_law, [(c0, P0)], spLawT K [(P0, lamQ)], fun p hp => by rw [List.mem_singleton.mp hp]; exact hP0, fun p hp => by rw [List.mem_singleton.mp hp]; exact hK0, fun p hp => by rw [List.mem_singleton.mp hp]; exact hC0, fun s v => .of_eq rfl,
    fun H a ns hl _ hT hS => ⟨a, ns, rfl, hS, hl, fun p hp => by rw [List.mem_singleton.mp hp]; exact LamX.TabS.nil (hT (c0, P0) (List.mem_singleton.mpr rfl)), fun _ => rfl⟩,
    fun base _ _ TB => law_sp main T (TB (c0, P0) (List.mem_singleton.mpr rfl)) hcd0⟩
end Y
open PySem PySem.W PyProof.Rows in
set_option maxRecDepth 100000 in
set_option maxHeartbeats 0 in
theorem PySem.Challenge.cw_pairwarden_k54_whole_best_lot_holds : PySem.Challenge.rw_pairwarden_k54_whole_best_lot.Holds := by
  w_on; o_law; k_head; (case hw => w_witness2)
  k_fill
  refine LamX.walk_ofTs (l := PySem.Challenge.rw_pairwarden_k54_whole_best_lot) (n := 63) (k := 9) (x := "script") (CX := fun _ => L2.CX0) rfl (by decide) rfl ⟨rfl, by decide, by decide⟩ (fun w h Y9 => PySem.W.km_in_of Y9) ?F fun _ _ _ _ _ z => z
  case F =>
    intro w mg fa h Y9 KX G hmg
    have hT8 := PySem.W.km_tabs_of Y9
    refine' Y.all_mk Y.main KX G hmg ?z_abs ?z_all ?z_bool ?z_enumerate ?z_int ?z_isinstance ?z_len ?z_list ?z_max ?z_min ?z_range ?z_reversed ?z_set ?z_sorted ?z_sum ?z_tuple ?aC_Pool ?pg_Pool ?hd_Pool ?po_Pool ?sa_Pool ?mk_Pool ?kc_Pool ?n_Pool_caps ?n_Pool_holders ?n_Pool_seats ?n_Pool_pieces ?a_are_different ?l_are_different ?c_are_different ?k_are_different ?a_Pool_init ?i_Pool_init ?l_Pool_init ?c_Pool_init ?k_Pool_init ?a_ordered_holders ?l_ordered_holders ?c_ordered_holders ?k_ordered_holders ?a_pair_room ?l_pair_room ?c_pair_room ?k_pair_room ?a_held_pairs ?l_held_pairs ?c_held_pairs ?k_held_pairs ?a_pairs_with_room ?l_pairs_with_room ?c_pairs_with_room ?k_pairs_with_room ?a_find_walk ?l_find_walk ?c_find_walk ?k_find_walk ?kd_find_walk ?a_take_walk ?l_take_walk ?c_take_walk ?k_take_walk ?a_pieces_by_pair ?l_pieces_by_pair ?c_pieces_by_pair ?k_pieces_by_pair ?a_walk_to ?l_walk_to ?c_walk_to ?k_walk_to ?a_best_lot ?l_best_lot ?c_best_lot ?k_best_lot ?a_law_cell ?l_law_cell ?c_law_cell ?k_law_cell ?a_law_draws ?l_law_draws ?c_law_draws ?k_law_draws ?a_law_bits ?l_law_bits ?c_law_bits ?k_law_bits ?a_law_pairs ?l_law_pairs ?c_law_pairs ?k_law_pairs ?a_law_pool ?l_law_pool ?c_law_pool ?k_law_pool ?a_law_lots ?l_law_lots ?c_law_lots ?k_law_lots ?a_law_places ?l_law_places ?c_law_places ?k_law_places ?a_law_is_integer ?l_law_is_integer ?c_law_is_integer ?k_law_is_integer ?a_law_apart ?l_law_apart ?c_law_apart ?k_law_apart ?a_law_worths ?l_law_worths ?c_law_worths ?k_law_worths ?a_law_order ?l_law_order ?c_law_order ?k_law_order ?a_law_dealable ?l_law_dealable ?c_law_dealable ?k_law_dealable ?a_law_collected ?l_law_collected ?c_law_collected ?k_law_collected ?a_law_collected_apart ?l_law_collected_apart ?c_law_collected_apart ?k_law_collected_apart ?a_law_is_best ?l_law_is_best ?c_law_is_best ?k_law_is_best ?a_law_joined ?l_law_joined ?c_law_joined ?k_law_joined ?a_law_collected_in_groups ?l_law_collected_in_groups ?c_law_collected_in_groups ?k_law_collected_in_groups ?a_law_is_right ?l_law_is_right ?c_law_is_right ?k_law_is_right ?a_law ?l_law ?c_law ?k_law ?hcd0 ?hP0 ?hK0 ?hC0
    (case z_abs => k_is)
    (case z_all => k_is)
    (case z_bool => k_is)
    (case z_enumerate => k_is)
    (case z_int => k_is)
    (case z_isinstance => k_is)
    (case z_len => k_is)
    (case z_list => k_is)
    (case z_max => k_is)
    (case z_min => k_is)
    (case z_range => k_is)
    (case z_reversed => k_is)
    (case z_set => k_is)
    (case z_sorted => k_is)
    (case z_sum => k_is)
    (case z_tuple => k_is)
    (case aC_Pool => k_is)
    (case pg_Pool => k_is)
    (case hd_Pool => k_is)
    (case po_Pool => k_is)
    (case sa_Pool => k_is)
    (case mk_Pool => k_is)
    (case kc_Pool => k_is)
    (case n_Pool_caps => k_is)
    (case n_Pool_holders => k_is)
    (case n_Pool_seats => k_is)
    (case n_Pool_pieces => k_is)
    (case a_are_different => k_is)
    (case l_are_different => k_is)
    (case c_are_different => k_is)
    (case k_are_different => k_is)
    (case a_Pool_init => k_is)
    (case i_Pool_init => k_is)
    (case l_Pool_init => k_is)
    (case c_Pool_init => k_is)
    (case k_Pool_init => k_is)
    (case a_ordered_holders => k_is)
    (case l_ordered_holders => k_is)
    (case c_ordered_holders => k_is)
    (case k_ordered_holders => k_is)
    (case a_pair_room => k_is)
    (case l_pair_room => k_is)
    (case c_pair_room => k_is)
    (case k_pair_room => k_is)
    (case a_held_pairs => k_is)
    (case l_held_pairs => k_is)
    (case c_held_pairs => k_is)
    (case k_held_pairs => k_is)
    (case a_pairs_with_room => k_is)
    (case l_pairs_with_room => k_is)
    (case c_pairs_with_room => k_is)
    (case k_pairs_with_room => k_is)
    (case a_find_walk => k_is)
    (case l_find_walk => k_is)
    (case c_find_walk => k_is)
    (case k_find_walk => k_is)
    (case kd_find_walk => k_is)
    (case a_take_walk => k_is)
    (case l_take_walk => k_is)
    (case c_take_walk => k_is)
    (case k_take_walk => k_is)
    (case a_pieces_by_pair => k_is)
    (case l_pieces_by_pair => k_is)
    (case c_pieces_by_pair => k_is)
    (case k_pieces_by_pair => k_is)
    (case a_walk_to => k_is)
    (case l_walk_to => k_is)
    (case c_walk_to => k_is)
    (case k_walk_to => k_is)
    (case a_best_lot => k_is)
    (case l_best_lot => k_is)
    (case c_best_lot => k_is)
    (case k_best_lot => k_is)
    (case a_law_cell => k_is)
    (case l_law_cell => k_is)
    (case c_law_cell => k_is)
    (case k_law_cell => k_is)
    (case a_law_draws => k_is)
    (case l_law_draws => k_is)
    (case c_law_draws => k_is)
    (case k_law_draws => k_is)
    (case a_law_bits => k_is)
    (case l_law_bits => k_is)
    (case c_law_bits => k_is)
    (case k_law_bits => k_is)
    (case a_law_pairs => k_is)
    (case l_law_pairs => k_is)
    (case c_law_pairs => k_is)
    (case k_law_pairs => k_is)
    (case a_law_pool => k_is)
    (case l_law_pool => k_is)
    (case c_law_pool => k_is)
    (case k_law_pool => k_is)
    (case a_law_lots => k_is)
    (case l_law_lots => k_is)
    (case c_law_lots => k_is)
    (case k_law_lots => k_is)
    (case a_law_places => k_is)
    (case l_law_places => k_is)
    (case c_law_places => k_is)
    (case k_law_places => k_is)
    (case a_law_is_integer => k_is)
    (case l_law_is_integer => k_is)
    (case c_law_is_integer => k_is)
    (case k_law_is_integer => k_is)
    (case a_law_apart => k_is)
    (case l_law_apart => k_is)
    (case c_law_apart => k_is)
    (case k_law_apart => k_is)
    (case a_law_worths => k_is)
    (case l_law_worths => k_is)
    (case c_law_worths => k_is)
    (case k_law_worths => k_is)
    (case a_law_order => k_is)
    (case l_law_order => k_is)
    (case c_law_order => k_is)
    (case k_law_order => k_is)
    (case a_law_dealable => k_is)
    (case l_law_dealable => k_is)
    (case c_law_dealable => k_is)
    (case k_law_dealable => k_is)
    (case a_law_collected => k_is)
    (case l_law_collected => k_is)
    (case c_law_collected => k_is)
    (case k_law_collected => k_is)
    (case a_law_collected_apart => k_is)
    (case l_law_collected_apart => k_is)
    (case c_law_collected_apart => k_is)
    (case k_law_collected_apart => k_is)
    (case a_law_is_best => k_is)
    (case l_law_is_best => k_is)
    (case c_law_is_best => k_is)
    (case k_law_is_best => k_is)
    (case a_law_joined => k_is)
    (case l_law_joined => k_is)
    (case c_law_joined => k_is)
    (case k_law_joined => k_is)
    (case a_law_collected_in_groups => k_is)
    (case l_law_collected_in_groups => k_is)
    (case c_law_collected_in_groups => k_is)
    (case k_law_collected_in_groups => k_is)
    (case a_law_is_right => k_is)
    (case l_law_is_right => k_is)
    (case c_law_is_right => k_is)
    (case k_law_is_right => k_is)
    (case a_law => k_is)
    (case l_law => k_is)
    (case c_law => k_is)
    (case k_law => k_is)
    (case hcd0 => rfl)
    (case hP0 => exact hT8 _ (List.Mem.head _))
    (case hK0 => rfl)
    (case hC0 => exact PySem.W.codeHd_of_K KX (by kernel_rfl))
end

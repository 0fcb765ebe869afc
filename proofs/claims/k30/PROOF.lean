import PyProof.Rows.All
import Wide.All
import OpenK.AllK
import Wide.FinOn
import HandS.ForMost
import HandS.Evl
import HandS.Strs
import HandS.Wide
import HandS.IsInst
import HandS.SortInts
import HandS.SortOrd
import KE.GoesEnum
import PyProof.TupleOfSeq
import PyProof.WalkInts
import HandS.Rev
import PyProof.ListNew
import HandS.TupAny
import HandS.SetFor
import HandS.Zip
import PyProof.Rows.CountFlat
import PyProof.P3In
import KE.KDictWalk
import HandS.Style
import HandS.Conv
import HandS.Defaults
import PyProof.DictMoreH
import PyProof.ReprRoads
import HandS.ExcOwn
import HandS.ExcIs
import HandS.Small
import HandS.SortRule
import HandS.Codes
import PyProof.Rows.MatchSeqLen
import PyProof.Rows.TupIter
import HandS.ExcInit
import HandS.ExcField
import KE.KExcIs
import HandS.Flow
import HandS.DictComp
import HandS.DictSubView
import HandS.More
import KE.KDictSum
import KE.KDictCopyH
import HandS.TupSets
import HandS.SetBool
import HandS.FStr
import KE.KUnpackStar
import KE.GoesEnumKw
import PyProof.StrBlock2
import HandS.HotCalls
import KE.KxField
import HandS.TupLe
import PyProof.ZipIter
import PyProof.CallType
import PyProof.WalkLemmas
import PyProof.RulesTry
import HandS.RepeatKit
import HandS.DictSubView0
import HandS.RevRange
import HandS.ReplaceLit
import HandS.ReplaceList
import KE.SortData
import PyProof.Rows.StrJoinRep
import PyProof.Rows.StrClose5
import KE.RegKIsAll
import KE.RegKTryMore
import HandS.EndBits
import PySem.Challenge.RW_pairwarden_k30_logs_read
namespace Rk
end Rk
namespace Y
end Y
namespace Zb
end Zb
namespace Zc
end Zc
namespace Zd
end Zd
namespace Zf
end Zf
namespace Zf6
end Zf6
namespace Zg
end Zg
namespace Zi
end Zi
namespace Zj
end Zj
namespace Zk
end Zk
namespace Zk2
end Zk2
namespace Zm
end Zm
namespace Zn
end Zn
namespace Zp
end Zp
namespace Zq
end Zq
namespace Zq5
end Zq5
namespace Zq6
end Zq6
namespace Zq7
end Zq7
namespace Zq8
end Zq8
namespace Zq9
end Zq9
namespace Zr
end Zr
namespace Zra
end Zra
namespace Zrb
end Zrb
namespace Zt
end Zt
namespace Zv
end Zv
namespace Zw
end Zw
namespace Zx
end Zx
section
set_option Elab.async false
set_option linter.all false
set_option maxRecDepth 100000
set_option autoImplicit false
set_option maxHeartbeats 2000000
/-! Data as trees over the layer: what is represented, what is owned. -/
namespace Zk
open PySem L2
open Evl (Ex)

inductive D where
  | non | bl (b : Bool) | int (i : Int) | str (s : Str)
  | lst (ds : List D) | tup (ds : List D)
  | scr (ns : List Int)
  | ins (C : Addr) (fs : List (Str × D))
  | dct (kvs : List (List Key × D))
  | dck (kvs : List (Key × D))
  | sti (w : World) (ns : List Int)
  | exn (a dd C : Addr) (fs : List (Str × D))
  | adr (a : Addr) (d : D)
  | ty (n : String) | cls (C : Addr)

def D.flat : D → Bool
  | .non => true | .bl _ => true | .int _ => true | .str _ => true | .ty _ => true | .cls _ => true | _ => false

variable {K : PySem.W.Frag}

mutual
inductive Rp (K : PySem.W.Frag) (O : Addr → Prop) (H : Hp) : V → D → Prop
  | non : Rp K O H .non .non
  | bl (b : Bool) : Rp K O H (.bl b) (.bl b)
  | int (i : Int) : Rp K O H (.int i) (.int i)
  | str (s : Str) : Rp K O H (.str s) (.str s)
  | ty (n : String) : Rp K O H (.ty n) (.ty n)
  | cls (C : Addr) : Rp K O H (.ref C) (.cls C)
  | lst {a : Addr} {xs : List V} {ds : List D} : ¬ O a → H a = some (.lst xs) → RpA K O H xs ds → Rp K O H (.ref a) (.lst ds)
  | tup {a : Addr} {xs : List V} {ds : List D} : ¬ O a → H a = some (.tup xs) → RpA K O H xs ds → Rp K O H (.ref a) (.tup ds)
  | dct {a : Addr} {xs : List (List Key × V)} {kvs : List (List Key × D)} : ¬ O a → H a = some (.dT xs) → xs.map (·.1) = kvs.map (·.1) → RpA K O H (xs.map (·.2)) (kvs.map (·.2)) → Rp K O H (.ref a) (.dct kvs)
  | dck {a : Addr} {xs : List (Key × V)} {kvs : List (Key × D)} : ¬ O a → H a = some (.dK xs) → xs.map (·.1) = kvs.map (·.1) → RpA K O H (xs.map (·.2)) (kvs.map (·.2)) → Rp K O H (.ref a) (.dck kvs)
  | sti {a : Addr} {w : World} {ns : List Int} : ¬ O a → H a = some (SetO w a (fun i => ns.contains i) ns.length) → Rp K O H (.ref a) (.sti w ns)
  | exn {a dd C : Addr} {fs : List (Str × V)} {gs : List (Str × D)} : ¬ O dd → H dd = some (.xd fs) → RpF K O H fs gs → Rp K O H (.ref a) (.exn a dd C gs)
  | adr {a : Addr} {d : D} : Rp K O H (.ref a) d → Rp K O H (.ref a) (.adr a d)
  | scr {a : Addr} {ns : List Int} : ¬ O a → Rd H a (.lst (ns.map V.int)) → Rp K O H (.ref a) (.scr ns)
  | kscr {a : Addr} {ns : List Int} : (∀ G : Hp, SqL K G a (ns.map V.int)) → Rp K O H (.ref a) (.scr ns)
  | ins {a C dx : Addr} {fs : List (Str × V)} {gs : List (Str × D)} : ¬ O a → H a = some (.ins C dx fs) → RpF K O H fs gs → Rp K O H (.ref a) (.ins C gs)
inductive RpA (K : PySem.W.Frag) (O : Addr → Prop) (H : Hp) : List V → List D → Prop
  | nil : RpA K O H [] []
  | cons {v : V} {vs : List V} {d : D} {ds : List D} : Rp K O H v d → RpA K O H vs ds → RpA K O H (v :: vs) (d :: ds)
inductive RpF (K : PySem.W.Frag) (O : Addr → Prop) (H : Hp) : List (Str × V) → List (Str × D) → Prop
  | nil : RpF K O H [] []
  | cons {n : Str} {v : V} {vs : List (Str × V)} {d : D} {ds : List (Str × D)} : Rp K O H v d → RpF K O H vs ds → RpF K O H ((n, v) :: vs) ((n, d) :: ds)
end

/-- what H and O know stays known by H' and O' -/
def Kp (O : Addr → Prop) (H : Hp) (O' : Addr → Prop) (H' : Hp) : Prop := ∀ a o, ¬ O a → H a = some o → ¬ O' a ∧ H' a = some o
theorem Kp.refl (O : Addr → Prop) (H : Hp) : Kp O H O H := fun _ _ h e => ⟨h, e⟩
theorem Kp.trans {O O1 O2 : Addr → Prop} {H H1 H2 : Hp} (x : Kp O H O1 H1) (y : Kp O1 H1 O2 H2) : Kp O H O2 H2 := fun a o h e => y a o (x a o h e).1 (x a o h e).2
theorem Kp.ex {O : Addr → Prop} {H H' : Hp} (e : Ex H H') : Kp O H O H' := fun a o h q => ⟨h, e a o q⟩

mutual
theorem Rp.kp {O O' : Addr → Prop} {H H' : Hp} (k : Kp O H O' H') : ∀ {v : V} {d : D}, Rp K O H v d → Rp K O' H' v d
  | _, _, .non => .non
  | _, _, .bl b => .bl b
  | _, _, .int i => .int i
  | _, _, .str s => .str s
  | _, _, .ty n => .ty n
  | _, _, .cls C => .cls C
  | _, _, .lst n h r => .lst (k _ _ n h).1 (k _ _ n h).2 (RpA.kp k r)
  | _, _, .tup n h r => .tup (k _ _ n h).1 (k _ _ n h).2 (RpA.kp k r)
  | _, _, .dct n h e r => .dct (k _ _ n h).1 (k _ _ n h).2 e (RpA.kp k r)
  | _, _, .dck n h e r => .dck (k _ _ n h).1 (k _ _ n h).2 e (RpA.kp k r)
  | _, _, .sti n h => .sti (k _ _ n h).1 (k _ _ n h).2
  | _, _, .exn n h r => .exn (k _ _ n h).1 (k _ _ n h).2 (RpF.kp k r)
  | _, _, .adr r => .adr (Rp.kp k r)
  | _, _, .scr n (.inl h) => .scr (k _ _ n h).1 (.inl (k _ _ n h).2)
  | _, _, .scr n (.inr ⟨o, h⟩) => .scr (k _ _ n h).1 (.inr ⟨o, (k _ _ n h).2⟩)
  | _, _, .kscr h => .kscr h
  | _, _, .ins n h r => .ins (k _ _ n h).1 (k _ _ n h).2 (RpF.kp k r)
theorem RpA.kp {O O' : Addr → Prop} {H H' : Hp} (k : Kp O H O' H') : ∀ {v : List V} {d : List D}, RpA K O H v d → RpA K O' H' v d
  | _, _, .nil => .nil
  | _, _, .cons h r => .cons (Rp.kp k h) (RpA.kp k r)
theorem RpF.kp {O O' : Addr → Prop} {H H' : Hp} (k : Kp O H O' H') : ∀ {v : List (Str × V)} {d : List (Str × D)}, RpF K O H v d → RpF K O' H' v d
  | _, _, .nil => .nil
  | _, _, .cons h r => .cons (Rp.kp k h) (RpF.kp k r)
end

theorem Rp.ex {O : Addr → Prop} {H H' : Hp} {v : V} {d : D} (r : Rp K O H v d) (e : Ex H H') : Rp K O H' v d := r.kp (Kp.ex e)
theorem RpA.ex {O : Addr → Prop} {H H' : Hp} {v : List V} {d : List D} (r : RpA K O H v d) (e : Ex H H') : RpA K O H' v d := r.kp (Kp.ex e)
theorem RpF.ex {O : Addr → Prop} {H H' : Hp} {v : List (Str × V)} {d : List (Str × D)} (r : RpF K O H v d) (e : Ex H H') : RpF K O H' v d := r.kp (Kp.ex e)
/-- flat data wants no heap -/
theorem Rp.flat {O O' : Addr → Prop} {H H' : Hp} {v : V} {d : D} (r : Rp K O H v d) (f : d.flat = true) : Rp K O' H' v d := by
  cases r <;> first | (cases f; done) | exact .non | exact .bl _ | exact .int _ | exact .str _ | exact .ty _ | exact .cls _

theorem RpA.len {O : Addr → Prop} {H : Hp} : ∀ {v : List V} {d : List D}, RpA K O H v d → v.length = d.length
  | _, _, .nil => rfl
  | _, _, .cons _ r => congrArg (· + 1) r.len
theorem RpA.get {O : Addr → Prop} {H : Hp} : ∀ {vs : List V} {ds : List D} {i : Nat} {d : D}, RpA K O H vs ds → ds[i]? = some d → ∃ v, vs[i]? = some v ∧ Rp K O H v d
  | _, _, i, d, .nil, e => by simp at e
  | _, _, 0, d, .cons h r, e => by
    simp at e
    subst e
    exact ⟨_, rfl, h⟩
  | _, _, i + 1, d, .cons h r, e => by
    simp at e
    obtain ⟨v, e1, e2⟩ := RpA.get r e
    exact ⟨v, by simpa using e1, e2⟩
theorem RpA.app {O : Addr → Prop} {H : Hp} : ∀ {vs : List V} {ds : List D} {ws : List V} {es : List D}, RpA K O H vs ds → RpA K O H ws es → RpA K O H (vs ++ ws) (ds ++ es)
  | _, _, _, _, .nil, r => r
  | _, _, _, _, .cons h q, r => .cons h (q.app r)
theorem RpA.one {O : Addr → Prop} {H : Hp} {v : V} {d : D} (r : Rp K O H v d) : RpA K O H [v] [d] := .cons r .nil
theorem RpA.take {O : Addr → Prop} {H : Hp} : ∀ {vs : List V} {ds : List D} (n : Nat), RpA K O H vs ds → RpA K O H (vs.take n) (ds.take n)
  | _, _, 0, _ => .nil
  | _, _, n + 1, .nil => .nil
  | _, _, n + 1, .cons h r => .cons h (r.take n)
theorem RpA.drop {O : Addr → Prop} {H : Hp} : ∀ {vs : List V} {ds : List D} (n : Nat), RpA K O H vs ds → RpA K O H (vs.drop n) (ds.drop n)
  | _, _, 0, r => r
  | _, _, n + 1, .nil => .nil
  | _, _, n + 1, .cons _ r => r.drop n
theorem RpA.set {O : Addr → Prop} {H : Hp} {v : V} {d : D} (h : Rp K O H v d) : ∀ {vs : List V} {ds : List D} (n : Nat), RpA K O H vs ds → RpA K O H (vs.set n v) (ds.set n d)
  | _, _, _, .nil => .nil
  | _, _, 0, .cons _ r => .cons h r
  | _, _, n + 1, .cons q r => .cons q (r.set h n)
theorem RpA.reverse {O : Addr → Prop} {H : Hp} {vs : List V} {ds : List D} (r : RpA K O H vs ds) : RpA K O H vs.reverse ds.reverse := by
  induction r using RpA.rec (motive_1 := fun _ _ _ => True) (motive_3 := fun _ _ _ => True) with
  | nil => exact .nil
  | cons h _ _ ih => rw [List.reverse_cons, List.reverse_cons]; exact ih.app (.one h)
  | _ => trivial
/-- a list of ints -/
def iL (ns : List Int) : List D := ns.map D.int
theorem RpA.toInts {O : Addr → Prop} {H : Hp} : ∀ {vs : List V} {ns : List Int}, RpA K O H vs (Zk.iL ns) → vs = ns.map V.int
  | _, [], .nil => rfl
  | _, n :: ns, .cons (.int _) r => by rw [List.map_cons, r.toInts]
theorem RpA.ofInts {O : Addr → Prop} {H : Hp} : ∀ (ns : List Int), RpA K O H (ns.map V.int) (Zk.iL ns)
  | [] => .nil
  | n :: ns => .cons (.int n) (RpA.ofInts ns)
/-! ### the state of a def: slots, what is owned -/
inductive Wd where
  | v (d : D) | o (d : D)
abbrev Gm : Type := List (Option Wd)

/-- an owned thing: its top stands apart, what it holds is known -/
def RpO (K : PySem.W.Frag) (O : Addr → Prop) (H : Hp) (a : Addr) : D → Prop
  | .lst ds => ∃ xs, H a = some (.lst xs) ∧ RpA K O H xs ds
  | .ins C gs => ∃ dx fs, H a = some (.ins C dx fs) ∧ RpF K O H fs gs
  | .dct kvs => ∃ xs, H a = some (.dT xs) ∧ xs.map (·.1) = kvs.map (·.1) ∧ RpA K O H (xs.map (·.2)) (kvs.map (·.2))
  | .dck kvs => ∃ xs, H a = some (.dK xs) ∧ xs.map (·.1) = kvs.map (·.1) ∧ RpA K O H (xs.map (·.2)) (kvs.map (·.2))
  | .sti w ns => H a = some (SetO w a (fun i => ns.contains i) ns.length)
  | _ => False
theorem RpO.kp {O O' : Addr → Prop} {H H' : Hp} {a : Addr} {d : D} (k : Kp O H O' H') (e : H' a = H a) (r : RpO K O H a d) : RpO K O' H' a d := by
  cases d with
  | lst ds => obtain ⟨xs, h, q⟩ := r; exact ⟨xs, e.trans h, q.kp k⟩
  | ins C gs => obtain ⟨dx, fs, h, q⟩ := r; exact ⟨dx, fs, e.trans h, q.kp k⟩
  | dct kvs => obtain ⟨xs, h, e1, q⟩ := r; exact ⟨xs, e.trans h, e1, q.kp k⟩
  | dck kvs => obtain ⟨xs, h, e1, q⟩ := r; exact ⟨xs, e.trans h, e1, q.kp k⟩
  | sti w ns => exact e.trans r
  | _ => exact r.elim
theorem RpO.rp {O O' : Addr → Prop} {H : Hp} {a : Addr} {d : D} (k : Kp O H O' H) (n : ¬ O' a) (r : RpO K O H a d) : Rp K O' H (.ref a) d := by
  cases d with
  | lst ds => obtain ⟨xs, h, q⟩ := r; exact .lst n h (q.kp k)
  | ins C gs => obtain ⟨dx, fs, h, q⟩ := r; exact .ins n h (q.kp k)
  | dct kvs => obtain ⟨xs, h, e1, q⟩ := r; exact .dct n h e1 (q.kp k)
  | dck kvs => obtain ⟨xs, h, e1, q⟩ := r; exact .dck n h e1 (q.kp k)
  | sti w ns => exact .sti n r
  | _ => exact r.elim
/-- there, and no tuple -/
def Lv (H : Hp) (a : Addr) : Prop := H a ≠ none ∧ ∀ xs, H a ≠ some (.tup xs)
theorem Lv.ex {H H' : Hp} {a : Addr} (h : Lv H a) (e : Ex H H') : Lv H' a := by
  cases z : H a with
  | none => exact absurd z h.1
  | some o =>
    have := e a o z
    exact ⟨fun q => (by rw [this] at q; cases q), fun xs q => (by rw [this] at q; exact h.2 xs (z.trans q))⟩
theorem RpO.lv {O : Addr → Prop} {H : Hp} {a : Addr} {d : D} (r : RpO K O H a d) : Lv H a := by
  cases d with
  | lst ds => obtain ⟨xs, h, q⟩ := r; exact ⟨fun z => (by rw [h] at z; cases z), fun _ z => (by rw [h] at z; cases z)⟩
  | ins C gs => obtain ⟨dx, fs, h, q⟩ := r; exact ⟨fun z => (by rw [h] at z; cases z), fun _ z => (by rw [h] at z; cases z)⟩
  | dct kvs => obtain ⟨xs, h, e1, q⟩ := r; exact ⟨fun z => (by rw [h] at z; cases z), fun _ z => (by rw [h] at z; cases z)⟩
  | dck kvs => obtain ⟨xs, h, e1, q⟩ := r; exact ⟨fun z => (by rw [h] at z; cases z), fun _ z => (by rw [h] at z; cases z)⟩
  | sti w ns =>
    have h : H a = some (SetO w a (fun i => ns.contains i) ns.length) := r
    exact ⟨fun z => (by rw [h] at z; cases z), fun _ z => (by rw [h] at z; cases z)⟩
  | _ => exact r.elim
theorem RpO.there {O : Addr → Prop} {H : Hp} {a : Addr} {d : D} (r : RpO K O H a d) : H a ≠ none := by
  cases d with
  | lst ds => obtain ⟨xs, h, q⟩ := r; rw [h]; exact fun z => by cases z
  | ins C gs => obtain ⟨dx, fs, h, q⟩ := r; rw [h]; exact fun z => by cases z
  | dct kvs => obtain ⟨xs, h, e1, q⟩ := r; rw [h]; exact fun z => by cases z
  | dck kvs => obtain ⟨xs, h, e1, q⟩ := r; rw [h]; exact fun z => by cases z
  | sti w ns =>
    have h : H a = some (SetO w a (fun i => ns.contains i) ns.length) := r
    rw [h]; exact fun z => by cases z
  | _ => exact r.elim

abbrev OW := Nat → Option Addr
def OO (Oc : Addr → Prop) (ow : OW) : Addr → Prop := fun a => Oc a ∨ ∃ i, ow i = some a
def noOw : OW := fun _ => none

/-- what is kept in sight: values that stay known; the object that slot 0 makes -/
structure Pn where
  ps : List (V × D)
  me : Option Addr

structure Reps (K : PySem.W.Frag) (H0 : Hp) (Oc : Addr → Prop) (pins : Pn) (ow : OW) (σ : L2.St) (H : Hp) (g : Gm) : Prop where
  len : σ.length = g.length
  ex : Ex H0 H
  oc : ∀ a, Oc a → Lv H0 a
  fr : ∀ (i : Nat) (a : Addr), ow i = some a → H0 a = none ∧ Lv H a
  inj : ∀ (i j : Nat) (a : Addr), ow i = some a → ow j = some a → i = j
  is : ∀ (i : Nat) (a : Addr), ow i = some a → ∃ d : D, g[i]? = some (some (Wd.o d))
  val : ∀ (i : Nat) (d : D), g[i]? = some (some (Wd.v d)) → ∃ v, σ[i]? = some (some v) ∧ Rp K (OO Oc ow) H v d
  own : ∀ (i : Nat) (d : D), g[i]? = some (some (Wd.o d)) → ∃ a, ow i = some a ∧ σ[i]? = some (some (.ref a)) ∧ RpO K (OO Oc ow) H a d
  pin : ∀ p ∈ pins.ps, Rp K (OO Oc ow) H p.1 p.2
  slf : ∀ x, pins.me = some x → ow 0 = some x

section
variable {H0 H H' : Hp} {Oc : Addr → Prop} {pins : Pn} {ow : OW} {σ : L2.St} {g : Gm}
theorem Reps.oo (R : Reps K H0 Oc pins ow σ H g) : ∀ a, OO Oc ow a → Lv H a := fun a h => by
  rcases h with h | ⟨i, h⟩
  · exact (R.oc a h).ex R.ex
  · exact (R.fr i a h).2
theorem Reps.grow (R : Reps K H0 Oc pins ow σ H g) (e : Ex H H') : Reps K H0 Oc pins ow σ H' g where
  len := R.len
  ex := R.ex.trans e
  oc := R.oc
  fr := fun i a h => ⟨(R.fr i a h).1, (R.fr i a h).2.ex e⟩
  inj := R.inj
  is := R.is
  val := fun i d h => let ⟨v, h1, h2⟩ := R.val i d h; ⟨v, h1, h2.ex e⟩
  own := fun i d h => let ⟨a, h1, h2, h3⟩ := R.own i d h; ⟨a, h1, h2, h3.kp (Kp.ex e) (by
    cases z : H a with
    | none => exact absurd z h3.there
    | some o => exact e a o z)⟩
  pin := fun p h => (R.pin p h).ex e
  slf := R.slf
theorem Reps.new {p : Addr} (R : Reps K H0 Oc pins ow σ H g) (h : H p = none) : ¬ OO Oc ow p := fun q => (R.oo p q).1 h
end

/-! ### freezing -/
def Wd.frz : Wd → Wd
  | .v d => .v d
  | .o d => .v d
def frzAll (g : Gm) : Gm := g.map (Option.map Wd.frz)
theorem frzAll_get (g : Gm) (i : Nat) : (frzAll g)[i]? = (g[i]?).map (Option.map Wd.frz) := by unfold frzAll; rw [List.getElem?_map]
def frz1 (g : Gm) (i : Nat) : Gm := if i = 0 then g else match g[i]? with
  | some (some (Wd.o d)) => g.set i (some (Wd.v d))
  | _ => g
def frzs (g : Gm) : List Nat → Gm
  | [] => g
  | i :: is => frzs (frz1 g i) is

section
variable {H0 H H' : Hp} {Oc : Addr → Prop} {pins : Pn} {ow : OW} {σ : L2.St} {g : Gm}
theorem Reps.kpDrop (R : Reps K H0 Oc pins ow σ H g) {ow' : OW} (h : ∀ i a, ow' i = some a → ow i = some a) : Kp (OO Oc ow) H (OO Oc ow') H := fun a o n e =>
  ⟨fun q => n (q.imp id fun ⟨i, z⟩ => ⟨i, h i a z⟩), e⟩
theorem Reps.frzAll (R : Reps K H0 Oc pins ow σ H g) : Reps K H0 Oc ⟨pins.ps, none⟩ noOw σ H (frzAll g) where
  len := by unfold Zk.frzAll; rw [List.length_map]; exact R.len
  ex := R.ex
  oc := R.oc
  fr := fun i a h => by cases h
  inj := fun i j a h => by cases h
  is := fun i a h => by cases h
  val := fun i d h => by
    have k := R.kpDrop (ow' := noOw) (fun i a z => by cases z)
    rw [frzAll_get] at h
    cases q : g[i]? with
    | none => rw [q] at h; cases h
    | some o =>
      rw [q] at h
      cases o with
      | none => cases h
      | some w =>
        cases w with
        | v d' =>
          cases h
          obtain ⟨v, h1, h2⟩ := R.val i d q
          exact ⟨v, h1, h2.kp k⟩
        | o d' =>
          cases h
          obtain ⟨a, h1, h2, h3⟩ := R.own i d q
          refine ⟨.ref a, h2, h3.rp k fun z => ?_⟩
          rcases z with z | ⟨j, z⟩
          · exact (R.oc a z).1 (R.fr i a h1).1
          · cases z
  own := fun i d h => by
    rw [frzAll_get] at h
    cases q : g[i]? with
    | none => rw [q] at h; cases h
    | some o =>
      rw [q] at h
      cases o with
      | none => cases h
      | some w => cases w <;> cases h
  pin := fun p h => (R.pin p h).kp (R.kpDrop (fun i a z => by cases z))
  slf := fun x h => by cases h
theorem Reps.frz1 (R : Reps K H0 Oc pins ow σ H g) (i : Nat) : ∃ ow', Reps K H0 Oc pins ow' σ H (frz1 g i) := by
  unfold Zk.frz1
  by_cases i0 : i = 0
  · rw [if_pos i0]; exact ⟨ow, R⟩
  rw [if_neg i0]
  split
  · rename_i d hd
    have hi : i < g.length := (List.getElem?_eq_some_iff.mp hd).1
    have hk : ∀ j a, (fun j => if j = i then none else ow j) j = some a → ow j = some a := fun j a z => by
      dsimp only at z
      split at z
      · cases z
      · exact z
    have k := R.kpDrop hk
    obtain ⟨ai, hi1, hi2, hi3⟩ := R.own i d hd
    refine ⟨fun j => if j = i then none else ow j, ?_⟩
    exact {
      len := by rw [List.length_set]; exact R.len
      ex := R.ex
      oc := R.oc
      fr := fun j a h => R.fr j a (hk j a h)
      inj := fun j l a h h' => R.inj j l a (hk j a h) (hk l a h')
      is := fun j a h => by
        have q := R.is j a (hk j a h)
        have n : j ≠ i := fun z => by
          rw [if_pos z] at h; cases h
        rw [List.getElem?_set_ne (Ne.symm n)]
        exact q
      val := fun j d' h => by
        by_cases n : j = i
        · subst n
          rw [List.getElem?_set_self hi] at h
          cases h
          refine ⟨.ref ai, hi2, hi3.rp k fun z => ?_⟩
          rcases z with z | ⟨l, z⟩
          · exact (R.oc ai z).1 (R.fr j ai hi1).1
          · have e := R.inj l j ai (hk l ai z) hi1
            have z' : (if l = j then none else ow l) = some ai := z
            rw [if_pos e] at z'
            cases z'
        · rw [List.getElem?_set_ne (Ne.symm n)] at h
          obtain ⟨v, h1, h2⟩ := R.val j d' h
          exact ⟨v, h1, h2.kp k⟩
      own := fun j d' h => by
        by_cases n : j = i
        · subst n
          rw [List.getElem?_set_self hi] at h
          cases h
        · rw [List.getElem?_set_ne (Ne.symm n)] at h
          obtain ⟨a, h1, h2, h3⟩ := R.own j d' h
          exact ⟨a, by rw [if_neg n]; exact h1, h2, h3.kp k rfl⟩
      pin := fun p h => (R.pin p h).kp k
      slf := fun x h => by rw [if_neg (Ne.symm i0)]; exact R.slf x h }
  · exact ⟨ow, R⟩
theorem Reps.frzs : ∀ (is : List Nat) {ow : OW} {g : Gm}, Reps K H0 Oc pins ow σ H g → ∃ ow', Reps K H0 Oc pins ow' σ H (Zk.frzs g is)
  | [], ow, g, R => ⟨ow, R⟩
  | i :: is, ow, g, R => by
    obtain ⟨ow1, R1⟩ := R.frz1 i
    exact Reps.frzs is R1
end
end Zk
end

section
set_option Elab.async false
set_option linter.all false
set_option maxRecDepth 100000
set_option autoImplicit false
set_option maxHeartbeats 2000000
/-! What expressions are worth, as data. -/
namespace Zk
open PySem L2
open Evl (Ex)

abbrev DF : Type := Gm → Option D
abbrev DAF : Type := Gm → Option (List D)
abbrev DTF : Type := Gm → Option Bool
def dVar (i : Nat) : DF := fun g => match g[i]? with
  | some (some (.v d)) => some d
  | _ => none
def dC (d : D) : DF := fun _ => some d
def d1 (f : D → Option D) (a : DF) : DF := fun g => (a g).bind f
def d2 (f : D → D → Option D) (a b : DF) : DF := fun g => (a g).bind fun x => (b g).bind fun y => f x y
def dN (f : List D → Option D) (a : DAF) : DF := fun g => (a g).bind f
def aNil : DAF := fun _ => some []
def aCons (a : DF) (r : DAF) : DAF := fun g => (a g).bind fun x => (r g).bind fun xs => some (x :: xs)
def mkTup (xs : List D) : Option D := if xs.length ≤ 100000 then some (.tup xs) else none
def mkLst (xs : List D) : Option D := if xs.length ≤ 100000 then some (.lst xs) else none

section
variable (K : PySem.W.Frag)
/-- an expression's reading te is worth t -/
def ER (te : TE) (t : DF) : Prop := ∀ g d, t g = some d → ∀ H0 Oc pins ow σ H, Reps K H0 Oc pins ow σ H g → ∀ Q : VK, (∀ v H', Ex H H' → Rp K (OO Oc ow) H' v d → Q v H') → te σ H Q
def AR (ta : TA) (t : DAF) : Prop := ∀ g ds, t g = some ds → ∀ H0 Oc pins ow σ H, Reps K H0 Oc pins ow σ H g → ∀ Q : List V → Hp → Prop, (∀ vs H', Ex H H' → RpA K (OO Oc ow) H' vs ds → Q vs H') → ta σ H Q
def TR (tt : TT) (t : DTF) : Prop := ∀ g b, t g = some b → ∀ H0 Oc pins ow σ H, Reps K H0 Oc pins ow σ H g → ∀ Q : Bool → Hp → Prop, (∀ H', Ex H H' → Q b H') → tt σ H Q
/-- operations by values -/
def RR (r : R2) (f : D → D → Option D) : Prop := ∀ x y d, f x y = some d → ∀ (O : Addr → Prop) H v u, (∀ a, O a → Lv H a) → Rp K O H v x → Rp K O H u y → ∀ Q : VK, (∀ w H', Ex H H' → Rp K O H' w d → Q w H') → r v u H Q
def RU (r : V → Hp → VK → Prop) (f : D → Option D) : Prop := ∀ x d, f x = some d → ∀ (O : Addr → Prop) H v, (∀ a, O a → Lv H a) → Rp K O H v x → ∀ Q : VK, (∀ w H', Ex H H' → Rp K O H' w d → Q w H') → r v H Q
def RC (r : List V → Hp → VK → Prop) (f : List D → Option D) : Prop := ∀ xs d, f xs = some d → ∀ (O : Addr → Prop) H vs, (∀ a, O a → Lv H a) → RpA K O H vs xs → ∀ Q : VK, (∀ w H', Ex H H' → Rp K O H' w d → Q w H') → r vs H Q
end

section
variable {K : PySem.W.Frag} {ta tb tc te : TE} {a b c : DF} {tt tu : TT} {t u : DTF}
theorem er_var (i : Nat) : ER K (tVar i) (dVar i) := fun g d h H0 Oc pins ow σ H R Q q => by
  unfold dVar at h
  split at h
  · rename_i d' e
    cases h
    obtain ⟨v, h1, h2⟩ := R.val i d e
    exact ⟨v, h1, q v H (Evl.Ex.refl H) h2⟩
  · cases h
theorem er_int {i : Int} : ER K (tC (.int i)) (dC (.int i)) := fun g d h H0 Oc pins ow σ H R Q q => by cases h; exact q _ H (Evl.Ex.refl H) (.int i)
theorem er_bl {i : Bool} : ER K (tC (.bl i)) (dC (.bl i)) := fun g d h H0 Oc pins ow σ H R Q q => by cases h; exact q _ H (Evl.Ex.refl H) (.bl i)
theorem er_str {i : Str} : ER K (tC (.str i)) (dC (.str i)) := fun g d h H0 Oc pins ow σ H R Q q => by cases h; exact q _ H (Evl.Ex.refl H) (.str i)
theorem er_non : ER K (tC .non) (dC .non) := fun g d h H0 Oc pins ow σ H R Q q => by cases h; exact q _ H (Evl.Ex.refl H) .non
theorem er_ty {n : String} : ER K (tC (.ty n)) (dC (.ty n)) := fun g d h H0 Oc pins ow σ H R Q q => by cases h; exact q _ H (Evl.Ex.refl H) (.ty n)
theorem er_2 {r : R2} {f : D → D → Option D} (hf : RR K r f) (ha : ER K ta a) (hb : ER K tb b) : ER K (tOp r ta tb) (d2 f a b) := fun g d h H0 Oc pins ow σ H R Q q => by
  unfold d2 at h
  cases ea : a g with
  | none => rw [ea] at h; cases h
  | some x =>
    rw [ea] at h
    cases eb : b g with
    | none => simp [eb] at h
    | some y =>
      simp only [Option.bind_some, eb] at h
      refine ha g x ea H0 Oc pins ow σ H R _ fun v H1 e1 r1 => ?_
      refine hb g y eb H0 Oc pins ow σ H1 (R.grow e1) _ fun w H2 e2 r2 => ?_
      exact hf x y d h (OO Oc ow) H2 v w ((R.grow e1).grow e2).oo (r1.ex e2) r2 Q fun z H3 e3 r3 => q z H3 ((e1.trans e2).trans e3) r3
theorem er_1 {r : V → Hp → VK → Prop} {f : D → Option D} (hf : RU K r f) (ha : ER K ta a) : ER K (tUn r ta) (d1 f a) := fun g d h H0 Oc pins ow σ H R Q q => by
  unfold d1 at h
  cases ea : a g with
  | none => rw [ea] at h; cases h
  | some x =>
    rw [ea] at h
    refine ha g x ea H0 Oc pins ow σ H R _ fun v H1 e1 r1 => ?_
    exact hf x d h (OO Oc ow) H1 v (R.grow e1).oo r1 Q fun z H3 e3 r3 => q z H3 (e1.trans e3) r3
theorem ar_nil : AR K tNil aNil := fun g d h H0 Oc pins ow σ H R Q q => by cases h; exact q _ H (Evl.Ex.refl H) .nil
theorem ar_cons {tr : TA} {r : DAF} (ha : ER K ta a) (hr : AR K tr r) : AR K (tCons ta tr) (aCons a r) := fun g d h H0 Oc pins ow σ H R Q q => by
  unfold aCons at h
  cases ea : a g with
  | none => rw [ea] at h; cases h
  | some x =>
    rw [ea] at h
    cases eb : r g with
    | none => simp [eb] at h
    | some y =>
      simp only [Option.bind_some, eb] at h
      cases h
      refine ha g x ea H0 Oc pins ow σ H R _ fun v H1 e1 r1 => ?_
      refine hr g y eb H0 Oc pins ow σ H1 (R.grow e1) _ fun w H2 e2 r2 => ?_
      exact q _ H2 (e1.trans e2) (.cons (r1.ex e2) r2)
theorem er_n {r : List V → Hp → VK → Prop} {f : List D → Option D} {tr : TA} {s : DAF} (hf : RC K r f) (ha : AR K tr s) : ER K (tCB r tr) (dN f s) := fun g d h H0 Oc pins ow σ H R Q q => by
  unfold dN at h
  cases ea : s g with
  | none => rw [ea] at h; cases h
  | some x =>
    rw [ea] at h
    refine ha g x ea H0 Oc pins ow σ H R _ fun v H1 e1 r1 => ?_
    exact hf x d h (OO Oc ow) H1 v (R.grow e1).oo r1 Q fun z H3 e3 r3 => q z H3 (e1.trans e3) r3
theorem new_not {O : Addr → Prop} {H : Hp} {p : Addr} (o : ∀ a, O a → Lv H a) (h : H p = none) : ¬ O p := fun z => (o p z).1 h
theorem er_tup {tr : TA} {s : DAF} (ha : AR K tr s) : ER K (tTup tr) (dN mkTup s) := fun g d h H0 Oc pins ow σ H R Q q => by
  unfold dN at h
  cases ea : s g with
  | none => rw [ea] at h; cases h
  | some x =>
    rw [ea] at h
    unfold mkTup at h
    simp only [Option.bind_some] at h
    split at h
    · rename_i hl
      cases h
      refine ha g x ea H0 Oc pins ow σ H R _ fun v H1 e1 r1 => ⟨by rw [r1.len]; exact Evl.sz_of hl, fun p hp => ?_⟩
      have e2 := Evl.Ex.new (o := .tup v) hp
      exact q _ _ (e1.trans e2) (.tup (new_not (R.grow e1).oo hp) upd_same (r1.ex e2))
    · cases h
theorem er_lst {tr : TA} {s : DAF} (ha : AR K tr s) : ER K (tLst tr) (dN mkLst s) := fun g d h H0 Oc pins ow σ H R Q q => by
  unfold dN at h
  cases ea : s g with
  | none => rw [ea] at h; cases h
  | some x =>
    rw [ea] at h
    unfold mkLst at h
    simp only [Option.bind_some] at h
    split at h
    · rename_i hl
      cases h
      refine ha g x ea H0 Oc pins ow σ H R _ fun v H1 e1 r1 => ⟨by rw [r1.len]; exact Evl.sz_of hl, fun p hp => ?_⟩
      have e2 := Evl.Ex.new (o := .lst v) hp
      exact q _ _ (e1.trans e2) (.lst (new_not (R.grow e1).oo hp) upd_same (r1.ex e2))
    · cases h

/-! ### tests -/
def truD : D → Option Bool
  | .non => some false
  | .bl b => some b
  | .int i => some (i != 0)
  | .str s => if s.length ≤ 100000 then some ((s.length : Int) != 0) else none
  | .lst ds => some (!ds.isEmpty)
  | .tup ds => some (!ds.isEmpty)
  | _ => none
theorem RpA.isEmpty {O : Addr → Prop} {H : Hp} {vs : List V} {ds : List D} (r : RpA K O H vs ds) : vs.isEmpty = ds.isEmpty := by
  cases r <;> rfl
theorem tru_rp {O : Addr → Prop} {H : Hp} {v : V} {d : D} {b : Bool} (r : Rp K O H v d) (h : truD d = some b) : TruV K v H b := by
  cases r with
  | non => cases h; exact rfl
  | bl b => cases h; exact rfl
  | int i => cases h; exact rfl
  | str s =>
    have h : (if s.length ≤ 100000 then some ((s.length : Int) != 0) else none) = some b := h
    split at h
    · rename_i hl
      cases h
      exact ⟨Evl.sz_of hl, rfl⟩
    · cases h
  | lst n e x => cases h; exact .inl ⟨_, .of e, by rw [x.isEmpty]⟩
  | tup n e x => cases h; exact .inr (.inl ⟨_, .of e, by rw [x.isEmpty]⟩)
  | dct n e x r => cases h
  | dck n e x r => cases h
  | sti n e => cases h
  | exn n e r => cases h
  | adr r => cases h
  | scr n e => cases h
  | kscr e => cases h
  | ins n e x => cases h
  | ty n => cases h
  | cls C => cases h
/-- a test by the truth of a value -/
def tTru (K : PySem.W.Frag) (te : TE) : TT := fun σ H Q => te σ H fun x H1 => ∃ k, TruV K x H1 k ∧ Q k H1
def tDt (f : D → Option Bool) (a : DF) : DTF := fun g => (a g).bind f
theorem tr_tru (ha : ER K ta a) : TR K (tTru K ta) (tDt truD a) := fun g d h H0 Oc pins ow σ H R Q q => by
  unfold tDt at h
  cases ea : a g with
  | none => rw [ea] at h; cases h
  | some x =>
    rw [ea] at h
    exact ha g x ea H0 Oc pins ow σ H R _ fun v H1 e1 r1 => ⟨d, tru_rp r1 h, q H1 e1⟩
def blD : D → Option Bool
  | .bl b => some b
  | _ => none
theorem tr_test (ha : ER K ta a) : TR K (tTest ta) (tDt blD a) := fun g d h H0 Oc pins ow σ H R Q q => by
  unfold tDt at h
  cases ea : a g with
  | none => rw [ea] at h; cases h
  | some x =>
    rw [ea] at h
    cases x <;> first | cases h | skip
    exact ha g _ ea H0 Oc pins ow σ H R _ fun v H1 e1 r1 => by
      cases r1
      exact ⟨_, rfl, q H1 e1⟩
def dAndT (a b : DTF) : DTF := fun g => (a g).bind fun x => if x = true then b g else some false
def dOrT (a b : DTF) : DTF := fun g => (a g).bind fun x => if x = true then some true else b g
def dNotT (a : DTF) : DTF := fun g => (a g).map (!·)
theorem tr_and (ha : TR K tt t) (hb : TR K tu u) : TR K (tAnd tt tu) (dAndT t u) := fun g d h H0 Oc pins ow σ H R Q q => by
  unfold dAndT at h
  cases ea : t g with
  | none => rw [ea] at h; cases h
  | some x =>
    rw [ea] at h
    simp only [Option.bind_some] at h
    refine ha g x ea H0 Oc pins ow σ H R _ fun H1 e1 => ?_
    cases x with
    | true =>
      rw [if_pos rfl] at h
      show tu σ H1 Q
      exact hb g d h H0 Oc pins ow σ H1 (R.grow e1) Q fun H2 e2 => q H2 (e1.trans e2)
    | false =>
      rw [if_neg Bool.false_ne_true] at h
      cases h
      show Q false H1
      exact q H1 e1
theorem tr_or (ha : TR K tt t) (hb : TR K tu u) : TR K (tOr tt tu) (dOrT t u) := fun g d h H0 Oc pins ow σ H R Q q => by
  unfold dOrT at h
  cases ea : t g with
  | none => rw [ea] at h; cases h
  | some x =>
    rw [ea] at h
    simp only [Option.bind_some] at h
    refine ha g x ea H0 Oc pins ow σ H R _ fun H1 e1 => ?_
    cases x with
    | true =>
      rw [if_pos rfl] at h
      cases h
      show Q true H1
      exact q H1 e1
    | false =>
      rw [if_neg Bool.false_ne_true] at h
      show tu σ H1 Q
      exact hb g d h H0 Oc pins ow σ H1 (R.grow e1) Q fun H2 e2 => q H2 (e1.trans e2)
theorem tr_not (ha : TR K tt t) : TR K (tNot tt) (dNotT t) := fun g d h H0 Oc pins ow σ H R Q q => by
  unfold dNotT at h
  cases ea : t g with
  | none => rw [ea] at h; cases h
  | some x =>
    rw [ea] at h
    cases h
    exact ha g x ea H0 Oc pins ow σ H R _ fun H1 e1 => q H1 e1
/-- and, or, not as values (bools) -/
def dAndV (a b : DF) : DF := fun g => (a g).bind fun x => match x with
  | .bl true => b g
  | .bl false => some (.bl false)
  | _ => none
def dOrV (a b : DF) : DF := fun g => (a g).bind fun x => match x with
  | .bl true => some (.bl true)
  | .bl false => b g
  | _ => none
def notD : D → Option D
  | .bl b => some (.bl (!b))
  | _ => none
theorem er_and (ha : ER K ta a) (hb : ER K tb b) : ER K (tAndV ta tb) (dAndV a b) := fun g d h H0 Oc pins ow σ H R Q q => by
  unfold dAndV at h
  cases ea : a g with
  | none => rw [ea] at h; cases h
  | some x =>
    rw [ea] at h
    simp only [Option.bind_some] at h
    cases x <;> first | cases h | skip
    rename_i k
    refine ha g _ ea H0 Oc pins ow σ H R _ fun v H1 e1 r1 => ?_
    cases r1
    refine ⟨k, rfl, ?_⟩
    cases k with
    | true =>
      show tb σ H1 Q
      exact hb g d h H0 Oc pins ow σ H1 (R.grow e1) Q fun v H2 e2 => q v H2 (e1.trans e2)
    | false =>
      cases h
      show Q (.bl false) H1
      exact q _ H1 e1 (.bl false)
theorem er_or (ha : ER K ta a) (hb : ER K tb b) : ER K (tOrV ta tb) (dOrV a b) := fun g d h H0 Oc pins ow σ H R Q q => by
  unfold dOrV at h
  cases ea : a g with
  | none => rw [ea] at h; cases h
  | some x =>
    rw [ea] at h
    simp only [Option.bind_some] at h
    cases x <;> first | cases h | skip
    rename_i k
    refine ha g _ ea H0 Oc pins ow σ H R _ fun v H1 e1 r1 => ?_
    cases r1
    refine ⟨k, rfl, ?_⟩
    cases k with
    | true =>
      cases h
      show Q (.bl true) H1
      exact q _ H1 e1 (.bl true)
    | false =>
      show tb σ H1 Q
      exact hb g d h H0 Oc pins ow σ H1 (R.grow e1) Q fun v H2 e2 => q v H2 (e1.trans e2)
theorem er_not (ha : ER K ta a) : ER K (tNotV ta) (d1 notD a) := fun g d h H0 Oc pins ow σ H R Q q => by
  unfold d1 at h
  cases ea : a g with
  | none => rw [ea] at h; cases h
  | some x =>
    rw [ea] at h
    simp only [Option.bind_some] at h
    cases x <;> first | cases h | skip
    rename_i k
    refine ha g _ ea H0 Oc pins ow σ H R _ fun v H1 e1 r1 => ?_
    cases r1
    exact ⟨k, rfl, q _ H1 e1 (.bl _)⟩
/-- x if c else y -/
def dIf (t : DTF) (a b : DF) : DF := fun g => (t g).bind fun x => if x = true then a g else b g
theorem er_if (ht : TR K tt t) (ha : ER K ta a) (hb : ER K tb b) : ER K (tIf tt ta tb) (dIf t a b) := fun g d h H0 Oc pins ow σ H R Q q => by
  unfold dIf at h
  cases ea : t g with
  | none => rw [ea] at h; cases h
  | some x =>
    rw [ea] at h
    simp only [Option.bind_some] at h
    refine ht g x ea H0 Oc pins ow σ H R _ fun H1 e1 => ?_
    cases x with
    | true =>
      rw [if_pos rfl] at h
      show ta σ H1 Q
      exact ha g d h H0 Oc pins ow σ H1 (R.grow e1) Q fun v H2 e2 => q v H2 (e1.trans e2)
    | false =>
      rw [if_neg Bool.false_ne_true] at h
      show tb σ H1 Q
      exact hb g d h H0 Oc pins ow σ H1 (R.grow e1) Q fun v H2 e2 => q v H2 (e1.trans e2)
/-- a < b < c -/
def dChain (f f' : D → D → Option D) (a b c : DF) : DF := fun g => (a g).bind fun x => (b g).bind fun y => (f x y).bind fun z => match z with
  | .bl true => (c g).bind fun w => f' y w
  | .bl false => some (.bl false)
  | _ => none
theorem er_chain {r r' : R2} {f f' : D → D → Option D} (hf : RR K r f) (hf' : RR K r' f') (ha : ER K ta a) (hb : ER K tb b) (hc : ER K tc c) : ER K (tChain r r' ta tb tc) (dChain f f' a b c) := fun g d h H0 Oc pins ow σ H R Q q => by
  unfold dChain at h
  cases ea : a g with
  | none => rw [ea] at h; cases h
  | some x =>
    rw [ea] at h
    cases eb : b g with
    | none => simp [eb] at h
    | some y =>
      simp only [Option.bind_some, eb] at h
      cases ef : f x y with
      | none => rw [ef] at h; cases h
      | some z =>
        rw [ef] at h
        simp only [Option.bind_some] at h
        cases z <;> first | cases h | skip
        rename_i k
        refine ha g x ea H0 Oc pins ow σ H R _ fun v H1 e1 r1 => ?_
        refine hb g y eb H0 Oc pins ow σ H1 (R.grow e1) _ fun w H2 e2 r2 => ?_
        refine hf x y _ ef (OO Oc ow) H2 v w ((R.grow e1).grow e2).oo (r1.ex e2) r2 _ fun z H3 e3 r3 => ?_
        cases r3
        refine ⟨k, rfl, ?_⟩
        cases k with
        | false =>
          cases h
          show Q (.bl false) H3
          exact q _ H3 ((e1.trans e2).trans e3) (.bl false)
        | true =>
          cases ec : c g with
          | none => simp [ec] at h
          | some w' =>
            simp only [ec, Option.bind_some] at h
            show tc σ H3 fun w' H4 => r' w w' H4 Q
            refine hc g w' ec H0 Oc pins ow σ H3 (((R.grow e1).grow e2).grow e3) _ fun u' H4 e4 r4 => ?_
            exact hf' y w' d h (OO Oc ow) H4 w u' ((((R.grow e1).grow e2).grow e3).grow e4).oo ((r2.ex e3).ex e4) r4 Q fun z H5 e5 r5 => q z H5 ((((e1.trans e2).trans e3).trans e4).trans e5) r5
/-- peeking: a test, or a flat value, may look at what is owned -/
def peekT (t : DTF) : DTF := fun g => t (frzAll g)
theorem tr_peek (ht : TR K tt t) : TR K tt (peekT t) := fun g d h H0 Oc pins ow σ H R Q q => ht _ d h H0 Oc _ noOw σ H R.frzAll Q q
end
end Zk
end

section
set_option Elab.async false
set_option linter.all false
set_option maxRecDepth 100000
set_option maxHeartbeats 4000000
/-! min, sorted, enumerate over tuples -/
namespace TS
open PySem PySem.Spec PySem.Calls PyProof.Rows L2
section
variable {prog : Program} {w : World} {A : Around} {E : Value → Shared → Prop} {s : Shared} {t : Addr}
theorem min_intTup {xs : Array (Int × Tok)} {Q : Value → Shared → Prop} (hh : A.handled = none) (hl : s.heap.IsTuple t (intItems xs)) (hne : 0 < xs.size)
    (h : ∀ v h' tk, (intItems xs)[argBest (fun i j => decide (numAt xs i < numAt xs j)) (xs.size - 1)]? = some v → (∀ b o, s.heap.get? b = some o → h'.get? b = some o) → Q v { s with heap := h', toks := tk }) :
    wpAny (model prog w) A (call (.builtin "min") [.ref t]) Q E s := by
  obtain ⟨o, ho, _⟩ := id hl
  have hlt : t < s.heap.objs.size := Heap.lt_size ho
  refine call_min_walk (wpAny_pyIter_tuple hl ?_)
  refine ⟨_, _, _, _, _, _, _, rfl, Walks.tuple (A := A.in1) hh _ t (Nat.ne_of_lt hlt) (intItems xs), ⟨⟨_, Heap.get?_push_size _ rfl, rfl, rfl⟩, hl.push _⟩, fun b hb => ?_, by simpa [intItems] using hne, CmpOf.ints_lt (numAt xs) (fun _ _ => intItems_at), fun v h' tk hP hk => ?_⟩
  · show b < (s.heap.push _).objs.size
    rw [Heap.size_push]
    rcases List.mem_cons.mp hb with rfl | hb
    · exact Nat.lt_succ_self _
    · rcases List.mem_cons.mp hb with rfl | hb
      · exact Nat.lt_succ_of_lt hlt
      · cases hb
  · refine h v h' tk (by simpa [intItems] using hP) fun b o e => hk b o (fun hm => ?_) (Heap.get?_push_of_some _ e)
    rcases List.mem_cons.mp hm with e1 | hm
    · exact absurd (e1 ▸ Heap.lt_size e) (Nat.lt_irrefl _)
    · cases hm
theorem min_rawT {its : List Value} {ns : List Int} {Q : Value → Shared → Prop} (hh : A.handled = none) (hl : s.heap.IsTuple t its.toArray) (hi : IntsAre its ns) (hne : 0 < ns.length)
    (h : ∀ h' tk M t', (∀ b o, s.heap.get? b = some o → h'.get? b = some o) → M ∈ ns → (∀ a, a ∈ ns → M ≤ a) → Q (.int M t') { s with heap := h', toks := tk }) : wpAny (model prog w) A (call (.builtin "min") [.ref t]) Q E s := by
  obtain ⟨xs, e⟩ := hi.allInts.items
  have hn : numsOf (intItems xs).toList = ns := by rw [← e]; exact hi.numsOf
  rw [nums_intItems] at hn
  subst hn
  rw [e] at hl
  have hsz : 0 < xs.size := by simpa using hne
  refine min_intTup hh hl hsz fun v h' tk hv hk => ?_
  obtain ⟨t, rfl⟩ := intItems_at hv
  obtain ⟨h1, h2⟩ := argBest_lt (numAt xs) (xs.size - 1)
  refine h h' tk _ t hk ?_ fun a ha => ?_
  · rw [numAt_eq]; exact PySem.getD_mem (by rw [List.length_map, Array.length_toList]; omega)
  · obtain ⟨j, hj, rfl⟩ := mem_getD ha
    rw [List.length_map, Array.length_toList] at hj
    rw [← numAt_eq]; exact h2 j (by omega)
end
section
variable {X : Cx}
def rMinT (K : PySem.W.Frag) : List V → Hp → VK → Prop := fun vs H Q => ∃ (a : Addr) (ns : List Int), vs = [V.ref a] ∧ SqT K H a (ns.map V.int) ∧ 0 < ns.length ∧ ∀ m, m ∈ ns → (∀ y, y ∈ ns → m ≤ y) → Q (.int m) H
theorem tupOf {h : Heap} {a : Addr} {its : Array Value} (x : IsTup h a its) : h.IsTuple a its := by
  obtain ⟨o, ho, hc, n, hd⟩ := x
  exact ⟨o, ho, hc, n, hd⟩
theorem cr_minT (hc : X.calm = true) : CallR X (.builtin "min") (rMinT X.K) := by
  intro pins s σ H vs us Q I r h
  obtain ⟨a, ns, rfl, hs, hne, q⟩ := h
  obtain ⟨its, rv, hl, _⟩ := I.tuple hs
  rw [Vals.ref1 r]
  exact min_rawT (I.ok.hd hc) (tupOf hl) rv.ints hne fun h' tk m t' hk h1 h2 => ⟨.int _, H, I.kept hk, ⟨_, rfl⟩, q m h1 h2⟩
end
end TS
namespace TS
open PySem PySem.Spec PySem.Calls PyProof.Rows L2 SrtO
section
variable {prog : Program} {w : World} {A : Around} {E : Value → Shared → Prop} {s : Shared}
end
/-! ### enumerate(a tuple) -/
end TS
namespace TS
open PySem PySem.Spec PySem.Calls PyProof.Rows L2
section
variable {prog : Program} {w : World} {A : Around} {E : Value → Shared → Prop} {s : Shared}
end
end TS
end

section
set_option Elab.async false
set_option linter.all false
set_option maxRecDepth 100000
set_option autoImplicit false
set_option maxHeartbeats 2000000
/-! Operators, calls, subscripts on data. -/
namespace Zk
open PySem L2 PyProof.Rows
open Evl (Ex)

/-! ### what the machine's rules are joined to -/
def CMulX (i j : Int) : Prop := i.natAbs.log2 + j.natAbs.log2 < 100000000
theorem CMulX.ok {i j : Int} (h : CMulX i j) : IntMulOk i j := by
  have b : ∀ x : Int, Builtin.Int.intBits x ≤ x.natAbs.log2 + 1 := fun x => by
    unfold Builtin.Int.intBits
    split <;> omega
  have h1 := b i
  have h2 := b j
  have h3 : i.natAbs.log2 + j.natAbs.log2 < 100000000 := h
  have e : bitsLine = 134217728 := by decide
  unfold IntMulOk
  intro z
  rw [Bool.and_eq_true] at z
  have z2 := z.2
  unfold Builtin.Int.intTooBig at z2
  have z3 := of_decide_eq_true z2
  rw [e] at z3
  omega
section
variable {X : Cx}
theorem op_mulX : OpR X (binaryOp .Mult) (rI CMulX fun i j => .int (i * j)) := opI fun _ _ _ _ _ _ _ hc q => mul_int q hc.ok
def rAddA : R2 := fun x y H Q => rI0 (fun i j => .int (i + j)) x y H Q ∨ (∃ i j, x = .str i ∧ y = .str j ∧ i.length + j.length ≤ sizeLine ∧ Q (.str (i ++ j)) H) ∨ rCat x y H Q
theorem op_addA : OpR X (binaryOp .Add) rAddA := op_add.or (op_add_str.or op_cat)
def rMulA : R2 := fun x y H Q => rI CMulX (fun i j => .int (i * j)) x y H Q ∨ rRep x y H Q
theorem op_mulA : OpR X (binaryOp .Mult) rMulA := op_mulX.or op_rep
def rLenA (K : PySem.W.Frag) : List V → Hp → VK → Prop := fun xs H Q => (∃ p ys, xs = [.ref p] ∧ (SqL K H p ys ∨ SqT K H p ys) ∧ Q (.int ys.length) H) ∨ ∃ z, xs = [.str z] ∧ z.length ≤ sizeLine ∧ Q (.int z.length) H
theorem call_lenA : CallR X (.builtin "len") (rLenA X.K) := call_len_seq.or call_len_str
def rMinA (K : PySem.W.Frag) : List V → Hp → VK → Prop := fun xs H Q => (rMin K xs H Q ∨ (∃ i j, xs = [.int i, .int j] ∧ Q (.int (if j < i then j else i)) H)) ∨ TS.rMinT K xs H Q
theorem call_minA (hc : X.calm = true) : CallR X (.builtin "min") (rMinA X.K) := ((cr_min hc).or (call_min2 hc)).or (TS.cr_minT hc)
def rMaxA (K : PySem.W.Frag) : List V → Hp → VK → Prop := fun xs H Q => rMax K xs H Q ∨ (∃ i j, xs = [.int i, .int j] ∧ Q (.int (if j > i then j else i)) H)
theorem call_maxA (hc : X.calm = true) : CallR X (.builtin "max") (rMaxA X.K) := (cr_max hc).or (call_max2 hc)
end

/-! ### the same on data -/
def addD : D → D → Option D
  | .int i, .int j => some (.int (i + j))
  | .str a, .str b => if a.length + b.length ≤ 100000 then some (.str (a ++ b)) else none
  | .lst a, .lst b => if a.length + b.length ≤ 100000 then some (.lst (a ++ b)) else none
  | _, _ => none
def subD : D → D → Option D
  | .int i, .int j => some (.int (i - j))
  | _, _ => none
def mulD : D → D → Option D
  | .int i, .int j => if i.natAbs.log2 + j.natAbs.log2 < 100000000 then some (.int (i * j)) else none
  | .lst a, .int k => if k ≤ 100000 ∧ -100000 ≤ k ∧ a.length * k.toNat ≤ 100000 then some (.lst (List.replicate k.toNat a).flatten) else none
  | _, _ => none
def fdivD : D → D → Option D
  | .int i, .int j => if 0 < j ∧ j.natAbs.log2 < 9000 then some (.int (i / j)) else none
  | _, _ => none
def modD : D → D → Option D
  | .int i, .int j => if 0 < j then some (.int (i % j)) else none
  | _, _ => none
def powD : D → D → Option D
  | .int i, .int j => if 0 ≤ j ∧ j ≤ 1000000 ∧ i.natAbs < 2 ^ 64 then some (.int (i ^ j.toNat)) else none
  | _, _ => none
def ltD : D → D → Option D
  | .int i, .int j => some (.bl (decide (i < j)))
  | _, _ => none
def leD : D → D → Option D
  | .int i, .int j => some (.bl (decide (i ≤ j)))
  | _, _ => none
def gtD : D → D → Option D
  | .int i, .int j => some (.bl (decide (j < i)))
  | _, _ => none
def geD : D → D → Option D
  | .int i, .int j => some (.bl (decide (j ≤ i)))
  | _, _ => none

section
variable {K : PySem.W.Frag}
theorem rr_fin {O : Addr → Prop} {H : Hp} {Q : VK} {v : V} {d : D} (q : ∀ w H', Ex H H' → Rp K O H' w d → Q w H') (r : Rp K O H v d) : Q v H := q v H (Evl.Ex.refl H) r
theorem rr_newL {O : Addr → Prop} {H : Hp} {Q : VK} {vs : List V} {ds : List D} (o : ∀ a, O a → Lv H a) (q : ∀ w H', Ex H H' → Rp K O H' w (.lst ds) → Q w H') (r : RpA K O H vs ds) : ∀ p, H p = none → Q (.ref p) (upd H p (.lst vs)) := fun p hp =>
  q _ _ (Evl.Ex.new hp) (.lst (new_not o hp) upd_same (r.ex (Evl.Ex.new hp)))
theorem rr_newT {O : Addr → Prop} {H : Hp} {Q : VK} {vs : List V} {ds : List D} (o : ∀ a, O a → Lv H a) (q : ∀ w H', Ex H H' → Rp K O H' w (.tup ds) → Q w H') (r : RpA K O H vs ds) : ∀ p, H p = none → Q (.ref p) (upd H p (.tup vs)) := fun p hp =>
  q _ _ (Evl.Ex.new hp) (.tup (new_not o hp) upd_same (r.ex (Evl.Ex.new hp)))
theorem rr_add : RR K rAddA addD := fun x y d h O H v u o rx ry Q q => by
  unfold addD at h
  split at h
  · cases h; cases rx; cases ry
    exact .inl ⟨_, _, rfl, rfl, rr_fin q (.int _)⟩
  · split at h
    · rename_i hl
      cases h; cases rx; cases ry
      exact .inr (.inl ⟨_, _, rfl, rfl, Evl.sz_of hl, rr_fin q (.str _)⟩)
    · cases h
  · split at h
    · rename_i hl
      cases h
      cases rx with
      | lst n e r =>
        cases ry with
        | lst n' e' r' => exact .inr (.inr ⟨_, _, _, _, rfl, rfl, e, e', by rw [r.len, r'.len]; exact Evl.sz_of hl, rr_newL o q (r.app r')⟩)
    · cases h
  · cases h
theorem rr_ii {f : D → D → Option D} {g : Int → Int → V} (gd : Int → Int → D) (hf : ∀ x y d, f x y = some d → ∃ i j, x = .int i ∧ y = .int j ∧ d = gd i j) (hg : ∀ (i j : Int) (O : Addr → Prop) (H : Hp), Rp K O H (g i j) (gd i j)) : RR K (rI0 g) f := fun x y d h O H v u o rx ry Q q => by
  obtain ⟨i, j, rfl, rfl, rfl⟩ := hf x y d h
  cases rx; cases ry
  exact ⟨i, j, rfl, rfl, rr_fin q (hg i j O H)⟩
theorem rr_iic {C : Int → Int → Prop} {f : D → D → Option D} {g : Int → Int → V} (gd : Int → Int → D) (hf : ∀ x y d, f x y = some d → ∃ i j, x = .int i ∧ y = .int j ∧ C i j ∧ d = gd i j) (hg : ∀ (i j : Int) (O : Addr → Prop) (H : Hp), Rp K O H (g i j) (gd i j)) : RR K (rI C g) f := fun x y d h O H v u o rx ry Q q => by
  obtain ⟨i, j, rfl, rfl, hc, rfl⟩ := hf x y d h
  cases rx; cases ry
  exact ⟨i, j, rfl, rfl, hc, rr_fin q (hg i j O H)⟩
theorem rr_sub : RR K (rI0 fun i j => .int (i - j)) subD := rr_ii (fun i j => .int (i - j)) (fun x y d h => by unfold subD at h; split at h <;> first | (cases h; exact ⟨_, _, rfl, rfl, rfl⟩) | cases h) fun i j O H => .int _
theorem rr_lt : RR K (rI0 fun i j => .bl (decide (i < j))) ltD := rr_ii (fun i j => .bl (decide (i < j))) (fun x y d h => by unfold ltD at h; split at h <;> first | (cases h; exact ⟨_, _, rfl, rfl, rfl⟩) | cases h) fun i j O H => .bl _
theorem rr_le : RR K (rI0 fun i j => .bl (decide (i ≤ j))) leD := rr_ii (fun i j => .bl (decide (i ≤ j))) (fun x y d h => by unfold leD at h; split at h <;> first | (cases h; exact ⟨_, _, rfl, rfl, rfl⟩) | cases h) fun i j O H => .bl _
theorem rr_gt : RR K (rI0 fun i j => .bl (decide (j < i))) gtD := rr_ii (fun i j => .bl (decide (j < i))) (fun x y d h => by unfold gtD at h; split at h <;> first | (cases h; exact ⟨_, _, rfl, rfl, rfl⟩) | cases h) fun i j O H => .bl _
theorem rr_ge : RR K (rI0 fun i j => .bl (decide (j ≤ i))) geD := rr_ii (fun i j => .bl (decide (j ≤ i))) (fun x y d h => by unfold geD at h; split at h <;> first | (cases h; exact ⟨_, _, rfl, rfl, rfl⟩) | cases h) fun i j O H => .bl _
theorem rr_fdiv : RR K (rI CDivW fun i j => .int (i / j)) fdivD := rr_iic (fun i j => .int (i / j)) (fun x y d h => by
  unfold fdivD at h
  split at h
  · split at h
    · rename_i hc
      cases h; exact ⟨_, _, rfl, rfl, hc, rfl⟩
    · cases h
  · cases h) fun i j O H => .int _
theorem rr_mod : RR K (rI (fun _ j => 0 < j) fun i j => .int (i % j)) modD := rr_iic (fun i j => .int (i % j)) (fun x y d h => by
  unfold modD at h
  split at h
  · split at h
    · rename_i hc
      cases h; exact ⟨_, _, rfl, rfl, hc, rfl⟩
    · cases h
  · cases h) fun i j O H => .int _
theorem rr_pow : RR K (rI CPow fun i j => .int (i ^ j.toNat)) powD := rr_iic (fun i j => .int (i ^ j.toNat)) (fun x y d h => by
  unfold powD at h
  split at h
  · split at h
    · rename_i hc
      cases h; exact ⟨_, _, rfl, rfl, hc, rfl⟩
    · cases h
  · cases h) fun i j O H => .int _
theorem RpA.rep {O : Addr → Prop} {H : Hp} {vs : List V} {ds : List D} (r : RpA K O H vs ds) : ∀ k : Nat, RpA K O H (List.replicate k vs).flatten (List.replicate k ds).flatten
  | 0 => .nil
  | k + 1 => by
    rw [List.replicate_succ, List.replicate_succ, List.flatten_cons, List.flatten_cons]
    exact r.app (RpA.rep r k)
theorem rr_mul : RR K rMulA mulD := fun x y d h O H v u o rx ry Q q => by
  unfold mulD at h
  split at h
  · split at h
    · rename_i hc
      cases h; cases rx; cases ry
      exact .inl ⟨_, _, rfl, rfl, hc, rr_fin q (.int _)⟩
    · cases h
  · split at h
    · rename_i hc
      cases h
      cases rx with
      | lst n e r =>
        cases ry
        obtain ⟨h1, h2, h3⟩ := hc
        exact .inr ⟨_, _, _, rfl, rfl, e, by omega, by omega, by rw [r.len]; exact Evl.sz_of h3, rr_newL o q (r.rep _)⟩
    · cases h
  · cases h
end
end Zk
end

section
set_option Elab.async false
set_option linter.all false
set_option maxRecDepth 100000
set_option autoImplicit false
set_option maxHeartbeats 2000000
/-! Comparisons, subscripts, built-in calls on data. -/
namespace Zk
open PySem L2 PyProof.Rows
open Evl (Ex)

/-! ### ==, != at any depth -/
mutual
def toP : D → Option PyData
  | .non => some .none
  | .bl b => some (.bool b)
  | .int i => some (.int i)
  | .str s => some (.str s)
  | .lst ds => (toPs ds).map .list
  | .tup ds => (toPs ds).map .tuple
  | _ => none
def toPs : List D → Option (List PyData)
  | [] => some []
  | d :: ds => (toP d).bind fun p => (toPs ds).map (p :: ·)
end
section
variable {K : PySem.W.Frag} {O : Addr → Prop} {H : Hp}
mutual
theorem dp_of : ∀ {d : D} {v : V} {p : PyData}, Rp K O H v d → toP d = some p → Dp K H v p
  | .non, _, _, .non, e => by cases e; exact .non
  | .bl _, _, _, .bl b, e => by cases e; exact .bl b
  | .int _, _, _, .int i, e => by cases e; exact .int i
  | .str _, _, _, .str s, e => by cases e; exact .str s
  | .lst ds, _, p, .lst n h r, e => by
    unfold toP at e
    cases q : toPs ds with
    | none => rw [q] at e; cases e
    | some ps =>
      rw [q] at e
      cases e
      exact .lst (.of h) (dps_of r q)
  | .tup ds, _, p, .tup n h r, e => by
    unfold toP at e
    cases q : toPs ds with
    | none => rw [q] at e; cases e
    | some ps =>
      rw [q] at e
      cases e
      exact .tup (.of h) (dps_of r q)
  | .scr _, _, _, _, e => by cases e
  | .ins _ _, _, _, _, e => by cases e
  | .dct _, _, _, _, e => by cases e
  | .dck _, _, _, _, e => by cases e
  | .sti _ _, _, _, _, e => by cases e
  | .exn _ _ _ _, _, _, _, e => by cases e
  | .adr _ _, _, _, _, e => by cases e
  | .ty _, _, _, _, e => by cases e
  | .cls _, _, _, _, e => by cases e
theorem dps_of : ∀ {ds : List D} {vs : List V} {ps : List PyData}, RpA K O H vs ds → toPs ds = some ps → DpAll K H vs ps
  | [], _, _, .nil, e => by cases e; exact .nil
  | d :: ds, _, ps, .cons h r, e => by
    unfold toPs at e
    cases q : toP d with
    | none => rw [q] at e; cases e
    | some p =>
      rw [q] at e
      cases q2 : toPs ds with
      | none => simp [q2] at e
      | some ps' =>
        simp only [Option.bind_some, q2, Option.map_some] at e
        cases e
        exact .cons (dp_of h q) (dps_of r q2)
end
end
def eqB (x y : D) : Option Bool := (toP x).bind fun p => (toP y).bind fun q => if SeqAt.shaped p && SeqAt.shaped q then some (PyData.eqv p q) else none
def eqD (x y : D) : Option D := (eqB x y).map .bl
def neD (x y : D) : Option D := (eqB x y).map fun b => .bl (!b)
theorem eqB_get {x y : D} {b : Bool} (h : eqB x y = some b) : ∃ p q, toP x = some p ∧ toP y = some q ∧ SeqAt.shaped p = true ∧ SeqAt.shaped q = true ∧ b = PyData.eqv p q := by
  unfold eqB at h
  cases hx : toP x with
  | none => rw [hx] at h; cases h
  | some p =>
    rw [hx] at h
    cases hy : toP y with
    | none => simp [hy] at h
    | some q =>
      simp only [Option.bind_some, hy] at h
      split at h
      · rename_i c
        cases h
        rw [Bool.and_eq_true] at c
        exact ⟨p, q, rfl, rfl, c.1, c.2, rfl⟩
      · cases h
section
variable {K : PySem.W.Frag}
theorem rr_eq : RR K (rEqD K) eqD := fun x y d h O H v u o rx ry Q q => by
  unfold eqD at h
  cases e : eqB x y with
  | none => rw [e] at h; cases h
  | some b =>
    rw [e] at h
    cases h
    obtain ⟨p, p', h1, h2, h3, h4, rfl⟩ := eqB_get e
    exact ⟨p, p', dp_of rx h1, dp_of ry h2, h3, h4, rr_fin q (.bl _)⟩
theorem rr_ne : RR K (rNeD K) neD := fun x y d h O H v u o rx ry Q q => by
  unfold neD at h
  cases e : eqB x y with
  | none => rw [e] at h; cases h
  | some b =>
    rw [e] at h
    cases h
    obtain ⟨p, p', h1, h2, h3, h4, rfl⟩ := eqB_get e
    exact ⟨p, p', dp_of rx h1, dp_of ry h2, h3, h4, rr_fin q (.bl _)⟩
/-- is None -/
def rIsN : R2 := fun x y H Q => y = .non ∧ Q (.bl (decide (x = .non))) H
def rNotN : R2 := fun x y H Q => y = .non ∧ Q (.bl (!decide (x = .non))) H
def isNonD : D → Bool
  | .non => true
  | _ => false
def isD (x : D) : D → Option D
  | .non => some (.bl (isNonD x))
  | _ => none
def isntD (x : D) : D → Option D
  | .non => some (.bl (!isNonD x))
  | _ => none
theorem isNon_rp {O : Addr → Prop} {H : Hp} {v : V} {d : D} (r : Rp K O H v d) : decide (v = .non) = isNonD d := by
  cases r <;> first | rfl | (show decide (V.ref _ = V.non) = false; exact decide_eq_false (fun q => by cases q)) | exact decide_eq_false (fun q => by cases q)
theorem rr_is : RR K rIsN isD := fun x y d h O H v u o rx ry Q q => by
  unfold isD at h
  split at h
  · cases h; cases ry
    exact ⟨rfl, by rw [isNon_rp rx]; exact rr_fin q (.bl _)⟩
  · cases h
theorem rr_isnt : RR K rNotN isntD := fun x y d h O H v u o rx ry Q q => by
  unfold isntD at h
  split at h
  · cases h; cases ry
    exact ⟨rfl, by rw [isNon_rp rx]; exact rr_fin q (.bl _)⟩
  · cases h
/-! ### in: flat items -/
def D.flat4 : D → Bool
  | .non => true | .bl _ => true | .int _ => true | .str _ => true | _ => false
def eqF : D → D → Bool
  | .non, .non => true
  | .bl a, .bl b => a == b
  | .bl a, .int b => (if a then 1 else 0) == b
  | .int a, .bl b => a == (if b then 1 else 0)
  | .int a, .int b => a == b
  | .str a, .str b => a == b
  | _, _ => false
def inB (x : D) : D → Option Bool
  | .lst ds => if x.flat4 && ds.all D.flat4 then some (ds.any fun z => eqF z x) else none
  | .tup ds => if x.flat4 && ds.all D.flat4 then some (ds.any fun z => eqF z x) else none
  | _ => none
def inD (x y : D) : Option D := (inB x y).map .bl
def ninD (x y : D) : Option D := (inB x y).map fun b => .bl (!b)
/-! ### subscripts -/
def ixD : D → D → Option D
  | .lst ds, .int i => atI ds i
  | .tup ds, .int i => atI ds i
  | .scr ns, .int i => (atI ns i).map .int
  | .str s, .int i => if s.length ≤ 100000 then (atI s.cps.toList i).map fun c => .str ⟨#[c]⟩ else none
  | _, _ => none
theorem RpA.at {O : Addr → Prop} {H : Hp} {vs : List V} {ds : List D} {i : Int} {d : D} (r : RpA K O H vs ds) (h : atI ds i = some d) : ∃ v, atI vs i = some v ∧ Rp K O H v d := by
  unfold atI at h ⊢
  rw [r.len]
  cases e : ixN ds.length i with
  | none => rw [e] at h; cases h
  | some j =>
    rw [e] at h
    obtain ⟨v, h1, h2⟩ := r.get h
    exact ⟨v, h1, h2⟩
theorem atI_map {α β : Type} (f : α → β) (xs : List α) (i : Int) : atI (xs.map f) i = (atI xs i).map f := by
  unfold atI
  rw [List.length_map]
  cases ixN xs.length i with
  | none => rfl
  | some j => simp [List.getElem?_map]
theorem rr_ix : RR K (rIx K) ixD := fun x y d h O H v u o rx ry Q q => by
  unfold ixD at h
  split at h
  · cases ry
    cases rx with
    | lst n e r =>
      obtain ⟨w, h1, h2⟩ := r.at h
      exact .inl ⟨_, _, _, w, rfl, rfl, .of e, h1, rr_fin q h2⟩
  · cases ry
    cases rx with
    | tup n e r =>
      obtain ⟨w, h1, h2⟩ := r.at h
      exact .inr (.inl ⟨_, _, _, w, rfl, rfl, .of e, h1, rr_fin q h2⟩)
  · rename_i ns i
    cases ry
    cases e : atI ns i with
    | none => rw [e] at h; cases h
    | some k =>
      rw [e] at h
      cases h
      have e2 : atI (ns.map V.int) i = some (.int k) := by rw [atI_map, e] <;> rfl
      cases rx with
      | scr n r => exact .inl ⟨_, _, _, _, rfl, rfl, .inl r, e2, rr_fin q (.int k)⟩
      | kscr r => exact .inl ⟨_, _, _, _, rfl, rfl, r H, e2, rr_fin q (.int k)⟩
  · rename_i s i
    split at h
    · rename_i hl
      cases e : atI s.cps.toList i with
      | none => rw [e] at h; cases h
      | some k =>
        rw [e] at h
        cases h; cases rx; cases ry
        exact .inr (.inr ⟨_, _, _, rfl, rfl, Evl.sz_of hl, e, rr_fin q (.str _)⟩)
    · cases h
  · cases h
/-! ### slices -/
abbrev DOF : Type := Gm → Option (Option Int)
def oNone : DOF := fun _ => some none
def oSome (a : DF) : DOF := fun g => (a g).bind fun x => match x with
  | .int i => some (some i)
  | _ => none
def OR (K : PySem.W.Frag) (to : TO) (t : DOF) : Prop := ∀ g b, t g = some b → ∀ H0 Oc pins ow σ H, Reps K H0 Oc pins ow σ H g → ∀ Q : Option Int → Hp → Prop, (∀ H', Ex H H' → Q b H') → to σ H Q
theorem or_none : OR K tNoPart oNone := fun g d h H0 Oc pins ow σ H R Q q => by cases h; exact q H (Evl.Ex.refl H)
theorem or_some {te : TE} {a : DF} (ha : ER K te a) : OR K (tPart te) (oSome a) := fun g d h H0 Oc pins ow σ H R Q q => by
  unfold oSome at h
  cases ea : a g with
  | none => rw [ea] at h; cases h
  | some x =>
    rw [ea] at h
    simp only [Option.bind_some] at h
    split at h
    · cases h
      exact ha g _ ea H0 Oc pins ow σ H R _ fun v H1 e1 r1 => by
        cases r1
        exact ⟨_, rfl, q H1 e1⟩
    · cases h
def cutL {α : Type} (xs : List α) (lo hi : Option Int) : List α := (xs.drop (HT.sIx xs.length 0 lo)).take (HT.sIx xs.length xs.length hi - HT.sIx xs.length 0 lo)
theorem RpA.cut {O : Addr → Prop} {H : Hp} {vs : List V} {ds : List D} (r : RpA K O H vs ds) (lo hi : Option Int) : RpA K O H (cutV vs lo hi) (cutL ds lo hi) := by
  unfold cutV cutL
  rw [r.len]
  exact (r.drop _).take _
def slD : D → Option Int → Option Int → Option D
  | .lst ds, lo, hi => some (.lst (cutL ds lo hi))
  | _, _, _ => none
def dSl (a : DF) (lo hi : DOF) : DF := fun g => (a g).bind fun x => (lo g).bind fun l => (hi g).bind fun h => slD x l h
theorem er_sl {te : TE} {tl th : TO} {a : DF} {lo hi : DOF} (ha : ER K te a) (hl : OR K tl lo) (hh : OR K th hi) : ER K (tSl (rSlL K) te tl th) (dSl a lo hi) := fun g d h H0 Oc pins ow σ H R Q q => by
  unfold dSl at h
  cases ea : a g with
  | none => rw [ea] at h; cases h
  | some x =>
    rw [ea] at h
    cases el : lo g with
    | none => simp [el] at h
    | some l =>
      simp only [Option.bind_some, el] at h
      cases eh : hi g with
      | none => simp [eh] at h
      | some u =>
        simp only [Option.bind_some, eh] at h
        refine ha g x ea H0 Oc pins ow σ H R _ fun v H1 e1 r1 => ?_
        refine hl g l el H0 Oc pins ow σ H1 (R.grow e1) _ fun H2 e2 => ?_
        refine hh g u eh H0 Oc pins ow σ H2 ((R.grow e1).grow e2) _ fun H3 e3 => ?_
        unfold slD at h
        split at h
        · cases h
          have r3 := (r1.ex e2).ex e3
          cases r3 with
          | lst n e r =>
            exact ⟨_, _, rfl, .of e, rr_newL (((R.grow e1).grow e2).grow e3).oo (fun w H' e' r' => q w H' (((e1.trans e2).trans e3).trans e') r') (r.cut l u)⟩
        · cases h
/-! ### calls -/
def lenD : List D → Option D
  | [.lst ds] => some (.int ds.length)
  | [.tup ds] => some (.int ds.length)
  | [.scr ns] => some (.int ns.length)
  | [.str s] => if s.length ≤ 100000 then some (.int s.length) else none
  | _ => none
theorem rc_len : RC K (rLenA K) lenD := fun xs d h O H vs o r Q q => by
  unfold lenD at h
  split at h
  · cases h
    cases r with
    | cons r rr =>
      cases rr
      cases r with
      | lst n e r => exact .inl ⟨_, _, rfl, .inl (.of e), by rw [r.len]; exact rr_fin q (.int _)⟩
  · cases h
    cases r with
    | cons r rr =>
      cases rr
      cases r with
      | tup n e r => exact .inl ⟨_, _, rfl, .inr (.of e), by rw [r.len]; exact rr_fin q (.int _)⟩
  · cases h
    cases r with
    | cons r rr =>
      cases rr
      cases r with
      | scr n e => exact .inl ⟨_, _, rfl, .inl (.inl e), by rw [List.length_map]; exact rr_fin q (.int _)⟩
      | kscr e => exact .inl ⟨_, _, rfl, .inl (e H), by rw [List.length_map]; exact rr_fin q (.int _)⟩
  · split at h
    · rename_i hl
      cases h
      cases r with
      | cons r rr =>
        cases rr
        cases r
        exact .inr ⟨_, rfl, Evl.sz_of hl, rr_fin q (.int _)⟩
    · cases h
  · cases h
def rAbs : List V → Hp → VK → Prop := fun xs H Q => ∃ i, xs = [.int i] ∧ Q (.int (if i < 0 then -i else i)) H
def absD : List D → Option D
  | [.int i] => some (.int (if i < 0 then -i else i))
  | _ => none
theorem rc_abs : RC K rAbs absD := fun xs d h O H vs o r Q q => by
  unfold absD at h
  split at h
  · cases h
    cases r with
    | cons r rr => cases rr; cases r; exact ⟨_, rfl, rr_fin q (.int _)⟩
  · cases h
def rInt1 : List V → Hp → VK → Prop := fun xs H Q => (∃ i, xs = [.int i] ∧ Q (.int i) H) ∨ ∃ k, xs = [.bl k] ∧ Q (.int (if k then 1 else 0)) H
def intD : List D → Option D
  | [.int i] => some (.int i)
  | [.bl k] => some (.int (if k = true then 1 else 0))
  | _ => none
theorem rc_int : RC K rInt1 intD := fun xs d h O H vs o r Q q => by
  unfold intD at h
  split at h
  · cases h
    cases r with
    | cons r rr => cases rr; cases r; exact .inl ⟨_, rfl, rr_fin q (.int _)⟩
  · cases h
    cases r with
    | cons r rr => cases rr; cases r; exact .inr ⟨_, rfl, rr_fin q (.int _)⟩
  · cases h
def listD : List D → Option D
  | [.lst ds] => some (.lst ds)
  | [.tup ds] => some (.lst ds)
  | _ => none
def rTupleOf (K : PySem.W.Frag) : List V → Hp → VK → Prop := fun xs H Q => ∃ p ys, xs = [.ref p] ∧ ((SqL K H p ys ∧ ∀ l, H l = none → Q (.ref l) (upd H l (.tup ys))) ∨ (SqT K H p ys ∧ Q (.ref p) H))
def tupleD : List D → Option D
  | [.lst ds] => some (.tup ds)
  | [.tup ds] => some (.tup ds)
  | _ => none
theorem rc_tuple : RC K (rTupleOf K) tupleD := fun xs d h O H vs o r Q q => by
  unfold tupleD at h
  split at h
  · cases h
    cases r with
    | cons r rr =>
      cases rr
      cases r with
      | lst n e r => exact ⟨_, _, rfl, .inl ⟨.of e, rr_newT o q r⟩⟩
  · cases h
    cases r with
    | cons r rr =>
      cases rr
      cases r with
      | tup n e r => exact ⟨_, _, rfl, .inr ⟨.of e, rr_fin q (.tup n e r)⟩⟩
  · cases h
def asInts : List D → Option (List Int)
  | [] => some []
  | .int i :: ds => (asInts ds).map (i :: ·)
  | _ => none
theorem asInts_iL : ∀ {ds : List D} {ns : List Int}, asInts ds = some ns → ds = iL ns
  | [], ns, h => by cases h; rfl
  | .int i :: ds, ns, h => by
    unfold asInts at h
    cases e : asInts ds with
    | none => rw [e] at h; cases h
    | some ms =>
      rw [e] at h
      cases h
      show D.int i :: ds = D.int i :: iL ms
      rw [asInts_iL e]
  | .non :: _, _, h => by cases h
  | .bl _ :: _, _, h => by cases h
  | .str _ :: _, _, h => by cases h
  | .lst _ :: _, _, h => by cases h
  | .tup _ :: _, _, h => by cases h
  | .scr _ :: _, _, h => by cases h
  | .ins _ _ :: _, _, h => by cases h
  | .dct _ :: _, _, h => by cases h
  | .dck _ :: _, _, h => by cases h
  | .sti _ _ :: _, _, h => by cases h
  | .exn _ _ _ _ :: _, _, h => by cases h
  | .adr _ _ :: _, _, h => by cases h
  | .ty _ :: _, _, h => by cases h
  | .cls _ :: _, _, h => by cases h
def asBls : List D → Option (List Bool)
  | [] => some []
  | .bl i :: ds => (asBls ds).map (i :: ·)
  | _ => none
theorem asBls_vs {O : Addr → Prop} {H : Hp} : ∀ {ds : List D} {vs : List V} {ns : List Bool}, RpA K O H vs ds → asBls ds = some ns → vs = ns.map V.bl
  | [], _, ns, .nil, h => by cases h; rfl
  | d :: ds, _, ns, .cons r rr, h => by
    cases r <;> first | (cases h; done) | skip
    unfold asBls at h
    cases e : asBls ds with
    | none => rw [e] at h; cases h
    | some ms =>
      rw [e] at h
      cases h
      rw [List.map_cons, asBls_vs rr e]
def minD : List D → Option D
  | [.lst ds] => (asInts ds).bind fun ns => ns.min?.map .int
  | [.tup ds] => (asInts ds).bind fun ns => ns.min?.map .int
  | [.int i, .int j] => some (.int (if j < i then j else i))
  | _ => none
theorem min_pick {ns : List Int} {m : Int} (em : ns.min? = some m) : 0 < ns.length ∧ ∀ k, k ∈ ns → (∀ y, y ∈ ns → k ≤ y) → k = m := by
  have hm := List.min?_eq_some_iff.mp em
  refine ⟨?_, fun k hk hle => Int.le_antisymm (hle m hm.1) (hm.2 k hk)⟩
  cases ns with
  | nil => cases em
  | cons a b => exact Nat.succ_pos _
theorem rc_min : RC K (rMinA K) minD := fun xs d h O H vs o r Q q => by
  unfold minD at h
  split at h
  · rename_i ds
    cases e : asInts ds with
    | none => rw [e] at h; cases h
    | some ns =>
      rw [e] at h
      simp only [Option.bind_some] at h
      cases em : ns.min? with
      | none => rw [em] at h; cases h
      | some m =>
        rw [em] at h
        cases h
        obtain rfl := asInts_iL e
        cases r with
        | cons r rr =>
          cases rr
          cases r with
          | lst n e r =>
            rw [r.toInts] at e
            refine .inl (.inl ⟨_, ns, rfl, .of e, (min_pick em).1, fun k hk hle => ?_⟩)
            rw [(min_pick em).2 k hk hle]
            exact rr_fin q (.int m)
  · rename_i ds
    cases e : asInts ds with
    | none => rw [e] at h; cases h
    | some ns =>
      rw [e] at h
      simp only [Option.bind_some] at h
      cases em : ns.min? with
      | none => rw [em] at h; cases h
      | some m =>
        rw [em] at h
        cases h
        obtain rfl := asInts_iL e
        cases r with
        | cons r rr =>
          cases rr
          cases r with
          | tup n e r =>
            rw [r.toInts] at e
            refine .inr ⟨_, ns, rfl, .of e, (min_pick em).1, fun k hk hle => ?_⟩
            rw [(min_pick em).2 k hk hle]
            exact rr_fin q (.int m)
  · cases h
    cases r with
    | cons r rr =>
      cases rr with
      | cons r' rr =>
        cases rr; cases r; cases r'
        exact .inl (.inr ⟨_, _, rfl, rr_fin q (.int _)⟩)
  · cases h
def maxD : List D → Option D
  | [.lst ds] => (asInts ds).bind fun ns => ns.max?.map .int
  | [.int i, .int j] => some (.int (if j > i then j else i))
  | _ => none
theorem rc_max : RC K (rMaxA K) maxD := fun xs d h O H vs o r Q q => by
  unfold maxD at h
  split at h
  · rename_i ds
    cases e : asInts ds with
    | none => rw [e] at h; cases h
    | some ns =>
      rw [e] at h
      simp only [Option.bind_some] at h
      cases em : ns.max? with
      | none => rw [em] at h; cases h
      | some m =>
        rw [em] at h
        cases h
        obtain rfl := asInts_iL e
        cases r with
        | cons r rr =>
          cases rr
          cases r with
          | lst n e r =>
            rw [r.toInts] at e
            refine .inl ⟨_, ns, rfl, .of e, ?_, fun k hk hle => ?_⟩
            · cases ns with
              | nil => cases em
              | cons a b => exact Nat.succ_pos _
            · have hm := List.max?_eq_some_iff.mp em
              have : k = m := Int.le_antisymm (hm.2 k hk) (hle m hm.1)
              rw [this]
              exact rr_fin q (.int m)
  · cases h
    cases r with
    | cons r rr =>
      cases rr with
      | cons r' rr =>
        cases rr; cases r; cases r'
        exact .inr ⟨_, _, rfl, rr_fin q (.int _)⟩
  · cases h
def allD : List D → Option D
  | [.lst ds] => (asBls ds).map fun bs => .bl (bs.all id)
  | _ => none
theorem rc_all : RC K (rAll K) allD := fun xs d h O H vs o r Q q => by
  unfold allD at h
  split at h
  · rename_i ds
    cases e : asBls ds with
    | none => rw [e] at h; cases h
    | some ns =>
      rw [e] at h
      cases h
      cases r with
      | cons r rr =>
        cases rr
        cases r with
        | lst n e' r =>
          rw [asBls_vs r e] at e'
          exact ⟨_, ns, rfl, .of e', rr_fin q (.bl _)⟩
  · cases h
/-- sorted ints -/
def srt (ns : List Int) : List Int := ns.mergeSort (fun a b => decide (a ≤ b))
theorem perm_sorted : ∀ {xs ys : List Int}, xs.Perm ys → xs.Pairwise (· ≤ ·) → ys.Pairwise (· ≤ ·) → xs = ys
  | [], ys, p, _, _ => (List.nil_perm.mp p).symm ▸ rfl
  | x :: xs, [], p, _, _ => absurd (List.perm_nil.mp p) (by simp)
  | x :: xs, y :: ys, p, h1, h2 => by
    have hx : x ∈ y :: ys := p.mem_iff.mp List.mem_cons_self
    have hy : y ∈ x :: xs := p.mem_iff.mpr List.mem_cons_self
    have h1' := List.pairwise_cons.mp h1
    have h2' := List.pairwise_cons.mp h2
    have le1 : y ≤ x := by
      rcases List.mem_cons.mp hx with e | e
      · omega
      · exact h2'.1 x e
    have le2 : x ≤ y := by
      rcases List.mem_cons.mp hy with e | e
      · omega
      · exact h1'.1 y e
    have e : x = y := Int.le_antisymm le2 le1
    subst e
    rw [perm_sorted (List.perm_cons x |>.mp p) h1'.2 h2'.2]
theorem srt_perm (ns : List Int) : (srt ns).Perm ns := List.mergeSort_perm _ _
/-! ### sum of a list of ints -/
/-! ### isinstance of a built-in type -/
def tyN : D → Option String
  | .non => some "NoneType"
  | .bl _ => some "bool"
  | .int _ => some "int"
  | .str _ => some "str"
  | .lst _ => some "list"
  | .tup _ => some "tuple"
  | _ => none
theorem ty_rp {O : Addr → Prop} {H : Hp} {v : V} {d : D} {n : String} (r : Rp K O H v d) (h : tyN d = some n) : TyX K H v (.type n) := by
  cases r with
  | non => cases h; exact .base .non
  | bl b => cases h; exact .base (.bl b)
  | int b => cases h; exact .base (.int b)
  | str b => cases h; exact .base (.str b)
  | lst m e r => cases h; exact .base (.lst e)
  | tup m e r => cases h; exact .base (.tup e)
  | dct m e x r => cases h
  | dck m e x r => cases h
  | sti m e => cases h
  | exn m e r => cases h
  | adr r => cases h
  | scr m e => cases h
  | kscr e => cases h
  | ins m e r => cases h
  | ty n => cases h
  | cls C => cases h
def isiD : List D → Option D
  | [x, .ty T] => (tyN x).bind fun n => (kitB n T).map .bl
  | _ => none
theorem rc_isi : RC K (rIsi K) isiD := fun xs d h O H vs o r Q q => by
  unfold isiD at h
  split at h
  · rename_i x T
    cases e : tyN x with
    | none => rw [e] at h; cases h
    | some n =>
      rw [e] at h
      simp only [Option.bind_some] at h
      cases ek : kitB n T with
      | none => rw [ek] at h; cases h
      | some b =>
        rw [ek] at h
        cases h
        cases r with
        | cons r rr =>
          cases rr with
          | cons r' rr =>
            cases rr; cases r'
            exact ⟨_, _, _, _, b, rfl, .ty T, ty_rp r e, kit_ty ek, rr_fin q (.bl b)⟩
  · cases h
/-- list(reversed(xs)) -/
def revD : D → Option D
  | .lst ds => some (.lst ds.reverse)
  | _ => none
end
end Zk
end

section
set_option Elab.async false
set_option linter.all false
set_option maxRecDepth 100000
set_option autoImplicit false
set_option maxHeartbeats 2000000
/-! What is walked; comprehensions; calls; statements. -/
namespace Zk
open PySem L2 PyProof.Rows
open Evl (Ex)

section
variable {K : PySem.W.Frag} {H0 H H' H1 : Hp} {Oc : Addr → Prop} {pins : Pn} {ow : OW} {σ : L2.St} {g : Gm}

/-! ### slots and owned things change -/
theorem Reps.lt (R : Reps K H0 Oc pins ow σ H g) {i : Nat} (hi : i < g.length) : i < σ.length := by rw [R.len]; exact hi
def dropW (ow : OW) (i : Nat) : OW := fun j => if j = i then none else ow j
theorem dropW_of {ow : OW} {i j : Nat} {a : Addr} (h : dropW ow i j = some a) : j ≠ i ∧ ow j = some a := by
  unfold dropW at h
  split at h
  · cases h
  · rename_i n; exact ⟨n, h⟩
theorem dropW_ne {ow : OW} {i j : Nat} (h : j ≠ i) : dropW ow i j = ow j := by
  unfold dropW
  rw [if_neg h]
def ownAt (g : Gm) (i : Nat) : Bool := match g[i]? with
  | some (some (.o _)) => true
  | _ => false
/-- slot i may be stored to: it is there, and it is not the object that a def is making -/
def okSlot (g : Gm) (i : Nat) : Bool := decide (i < g.length) && (i != 0 || !ownAt g 0)
theorem okSlot_lt {g : Gm} {i : Nat} (h : okSlot g i = true) : i < g.length := by
  unfold okSlot at h
  rw [Bool.and_eq_true] at h
  exact of_decide_eq_true h.1
theorem okSlot_me {g : Gm} {i : Nat} (h : okSlot g i = true) (R : Reps K H0 Oc pins ow σ H g) {x : Addr} (e : pins.me = some x) : 0 ≠ i := fun z => by
  unfold okSlot at h
  rw [Bool.and_eq_true] at h
  obtain ⟨d, hd⟩ := R.is 0 x (R.slf x e)
  have o : ownAt g 0 = true := by unfold ownAt; rw [hd]
  rw [o, ← z] at h
  exact absurd h.2 (by decide)
/-- slot i is given a known value -/
theorem Reps.setV (R : Reps K H0 Oc pins ow σ H g) {i : Nat} {v : V} {d : D} (hi : okSlot g i = true) (r : Rp K (OO Oc ow) H v d) : Reps K H0 Oc pins (dropW ow i) (σ.set i (some v)) H (g.set i (some (.v d))) where
  len := by rw [List.length_set, List.length_set]; exact R.len
  ex := R.ex
  oc := R.oc
  fr := fun j a h => R.fr j a (dropW_of h).2
  inj := fun j l a h h' => R.inj j l a (dropW_of h).2 (dropW_of h').2
  is := fun j a h => by
    obtain ⟨n, h⟩ := dropW_of h
    rw [List.getElem?_set_ne (Ne.symm n)]
    exact R.is j a h
  val := fun j d' h => by
    have k := R.kpDrop (ow' := dropW ow i) (fun j a z => (dropW_of z).2)
    by_cases n : j = i
    · subst n
      rw [List.getElem?_set_self (okSlot_lt hi)] at h
      cases h
      exact ⟨v, List.getElem?_set_self (R.lt (okSlot_lt hi)), r.kp k⟩
    · rw [List.getElem?_set_ne (Ne.symm n)] at h ⊢
      obtain ⟨w, h1, h2⟩ := R.val j d' h
      exact ⟨w, h1, h2.kp k⟩
  own := fun j d' h => by
    have k := R.kpDrop (ow' := dropW ow i) (fun j a z => (dropW_of z).2)
    by_cases n : j = i
    · subst n
      rw [List.getElem?_set_self (okSlot_lt hi)] at h
      cases h
    · rw [List.getElem?_set_ne (Ne.symm n)] at h ⊢
      obtain ⟨a, h1, h2, h3⟩ := R.own j d' h
      exact ⟨a, (dropW_ne n).trans h1, h2, h3.kp k rfl⟩
  pin := fun p h => (R.pin p h).kp (R.kpDrop (fun j a z => (dropW_of z).2))
  slf := fun x e => (dropW_ne (okSlot_me hi R e)).trans (R.slf x e)
/-- slot i is given a new thing of its own -/
def putW (ow : OW) (i : Nat) (p : Addr) : OW := fun j => if j = i then some p else ow j
theorem putW_of {ow : OW} {i j : Nat} {p a : Addr} (h : putW ow i p j = some a) : (j = i ∧ a = p) ∨ (j ≠ i ∧ ow j = some a) := by
  unfold putW at h
  split at h
  · rename_i n; cases h; exact .inl ⟨n, rfl⟩
  · rename_i n; exact .inr ⟨n, h⟩
theorem Reps.fresh0 (R : Reps K H0 Oc pins ow σ H g) {p : Addr} (h : H p = none) : H0 p = none := Evl.fresh_back R.ex h
theorem Reps.setO (R : Reps K H0 Oc pins ow σ H g) {i : Nat} {p : Addr} {d : D} (hi0 : okSlot g i = true) (hp : H p = none) (e : Ex H H') (r : RpO K (fun a => OO Oc ow a ∨ a = p) H' p d) :
    Reps K H0 Oc pins (putW ow i p) (σ.set i (some (.ref p))) H' (g.set i (some (.o d))) := by
  have hi := okSlot_lt hi0
  have np : ∀ j a, ow j = some a → a ≠ p := fun j a h z => by rw [z] at h; exact (R.fr j p h).2.1 hp
  have k : Kp (OO Oc ow) H (OO Oc (putW ow i p)) H' := fun a o n h => by
    refine ⟨fun z => ?_, e a o h⟩
    rcases z with z | ⟨j, z⟩
    · exact n (.inl z)
    · rcases putW_of z with ⟨_, z⟩ | ⟨_, z⟩
      · rw [z, hp] at h; cases h
      · exact n (.inr ⟨j, z⟩)
  have k2 : Kp (fun a => OO Oc ow a ∨ a = p) H' (OO Oc (putW ow i p)) H' := fun a o n h => by
    refine ⟨fun z => ?_, h⟩
    rcases z with z | ⟨j, z⟩
    · exact n (.inl (.inl z))
    · rcases putW_of z with ⟨_, z⟩ | ⟨_, z⟩
      · exact n (.inr z)
      · exact n (.inl (.inr ⟨j, z⟩))
  exact {
    len := by rw [List.length_set, List.length_set]; exact R.len
    ex := R.ex.trans e
    oc := R.oc
    fr := fun j a h => by
      rcases putW_of h with ⟨_, z⟩ | ⟨_, z⟩
      · rw [z]; exact ⟨R.fresh0 hp, r.lv⟩
      · exact ⟨(R.fr j a z).1, (R.fr j a z).2.ex e⟩
    inj := fun j l a h h' => by
      rcases putW_of h with ⟨z, y⟩ | ⟨_, z⟩
      · rcases putW_of h' with ⟨z', _⟩ | ⟨_, z'⟩
        · rw [z, z']
        · exact absurd y (np l a z')
      · rcases putW_of h' with ⟨_, y⟩ | ⟨_, z'⟩
        · exact absurd y (np j a z)
        · exact R.inj j l a z z'
    is := fun j a h => by
      rcases putW_of h with ⟨z, _⟩ | ⟨n, z⟩
      · rw [z, List.getElem?_set_self hi]; exact ⟨d, rfl⟩
      · rw [List.getElem?_set_ne (Ne.symm n)]; exact R.is j a z
    val := fun j d' h => by
      by_cases n : j = i
      · subst n
        rw [List.getElem?_set_self hi] at h
        cases h
      · rw [List.getElem?_set_ne (Ne.symm n)] at h ⊢
        obtain ⟨w, h1, h2⟩ := R.val j d' h
        exact ⟨w, h1, h2.kp k⟩
    own := fun j d' h => by
      by_cases n : j = i
      · subst n
        rw [List.getElem?_set_self hi] at h
        cases h
        exact ⟨p, by unfold putW; rw [if_pos rfl], List.getElem?_set_self (R.lt hi), r.kp k2 rfl⟩
      · rw [List.getElem?_set_ne (Ne.symm n)] at h ⊢
        obtain ⟨a, h1, h2, h3⟩ := R.own j d' h
        refine ⟨a, by unfold putW; rw [if_neg n]; exact h1, h2, h3.kp k ?_⟩
        cases y : H a with
        | none => exact absurd y h3.there
        | some o => exact e a o y
    pin := fun q h => (R.pin q h).kp k
    slf := fun x h => by unfold putW; rw [if_neg (okSlot_me hi0 R h)]; exact R.slf x h }
/-- the thing of slot i is changed -/
theorem Reps.upd (R : Reps K H0 Oc pins ow σ H g) {i : Nat} {a : Addr} {d d' : D} {o : HO} (hg : g[i]? = some (some (Wd.o d))) (ha : ow i = some a) (r : RpO K (OO Oc ow) (upd H a o) a d') :
    Reps K H0 Oc pins ow σ (L2.upd H a o) (g.set i (some (.o d'))) := by
  have hi : i < g.length := (List.getElem?_eq_some_iff.mp hg).1
  have k : Kp (OO Oc ow) H (OO Oc ow) (L2.upd H a o) := fun b u n h => ⟨n, by rw [upd_ne (fun z => n (.inr ⟨i, by rw [z]; exact ha⟩))]; exact h⟩
  exact {
    len := by rw [List.length_set]; exact R.len
    ex := Evl.Ex.mut R.ex (R.fr i a ha).1
    oc := R.oc
    fr := fun j b h => ⟨(R.fr j b h).1, by
      by_cases z : b = a
      · rw [z]; exact r.lv
      · unfold Lv; rw [upd_ne z]; exact (R.fr j b h).2⟩
    inj := R.inj
    is := fun j b h => by
      by_cases n : j = i
      · subst n
        rw [List.getElem?_set_self hi]; exact ⟨d', rfl⟩
      · rw [List.getElem?_set_ne (Ne.symm n)]; exact R.is j b h
    val := fun j e h => by
      by_cases n : j = i
      · subst n
        rw [List.getElem?_set_self hi] at h; cases h
      · rw [List.getElem?_set_ne (Ne.symm n)] at h
        obtain ⟨w, h1, h2⟩ := R.val j e h
        exact ⟨w, h1, h2.kp k⟩
    own := fun j e h => by
      by_cases n : j = i
      · subst n
        rw [List.getElem?_set_self hi] at h
        cases h
        obtain ⟨b, h1, h2, _⟩ := R.own j d hg
        rw [ha] at h1
        cases h1
        exact ⟨a, ha, h2, r⟩
      · rw [List.getElem?_set_ne (Ne.symm n)] at h
        obtain ⟨b, h1, h2, h3⟩ := R.own j e h
        exact ⟨b, h1, h2, h3.kp k (upd_ne (fun z => n (R.inj j i b h1 (by rw [z]; exact ha))))⟩
    pin := fun p h => (R.pin p h).kp k
    slf := R.slf }
def Pn.more (pins : Pn) (ps : List (V × D)) : Pn := ⟨ps ++ pins.ps, pins.me⟩
theorem Reps.morePins (R : Reps K H0 Oc pins ow σ H g) {ps : List (V × D)} (h : ∀ p ∈ ps, Rp K (OO Oc ow) H p.1 p.2) : Reps K H0 Oc (pins.more ps) ow σ H g :=
  ⟨R.len, R.ex, R.oc, R.fr, R.inj, R.is, R.val, R.own, fun p hp => (List.mem_append.mp hp).elim (h p) (R.pin p), R.slf⟩
theorem Reps.lessPins {ps : List (V × D)} (R : Reps K H0 Oc (pins.more ps) ow σ H g) : Reps K H0 Oc pins ow σ H g :=
  ⟨R.len, R.ex, R.oc, R.fr, R.inj, R.is, R.val, R.own, fun p hp => R.pin p (List.mem_append_right _ hp), R.slf⟩
end

/-! ### what a loop walks -/
abbrev DIF : Type := Gm → Option (List D)
structure WkP (K : PySem.W.Frag) (J : It) (ds : List D) (ps : List (V × D)) (Φ : Hp → Prop) : Prop where
  go : ∀ (O : Addr → Prop) (i : Nat) (H : Hp), i < ds.length → (∀ p ∈ ps, Rp K O H p.1 p.2) → Φ H → J.go i H
  yld : ∀ (O : Addr → Prop) (i : Nat) (H : Hp) (v : V) (H' : Hp) (d : D), (∀ a, O a → Lv H a) → (∀ p ∈ ps, Rp K O H p.1 p.2) → J.yld i H v H' → ds[i]? = some d → Ex H H' ∧ Rp K O H' v d
  stop : ∀ (O : Addr → Prop) (H : Hp), (∀ p ∈ ps, Rp K O H p.1 p.2) → Φ H → J.stop ds.length H
/-- .. that needs nothing but what is known -/
abbrev Wk (K : PySem.W.Frag) (J : It) (ds : List D) (ps : List (V × D)) : Prop := WkP K J ds ps fun _ => True
def IR (K : PySem.W.Frag) (wi : TI) (it : DIF) : Prop := ∀ g ds, it g = some ds → ∀ H0 Oc pins ow σ H, Reps K H0 Oc pins ow σ H g → ∀ R : It → Hp → Prop,
  (∀ J H' ps, Ex H H' → (∀ p ∈ ps, Rp K (OO Oc ow) H' p.1 p.2) → Wk K J ds ps → R J H') → wi σ H R
def itemsD : D → Option (List D)
  | .lst ds => some ds
  | .tup ds => some ds
  | .scr ns => some (iL ns)
  | _ => none
def iSeq (K : PySem.W.Frag) (te : TE) : TI := fun σ H R => iList K te σ H R ∨ iTup K te σ H R
theorem pi_or {X : Cx} {tg e : Expr} {w1 w2 : TI} (h1 : PI X tg e w1) (h2 : PI X tg e w2) : PI X tg e (fun σ H R => w1 σ H R ∨ w2 σ H R) := ⟨fun pins s σ H R I h => h.elim (h1.run pins s σ H R I) (h2.run pins s σ H R I)⟩
theorem pi_seq {X : Cx} {tg e : Expr} {te : TE} (h : PE X e te) : PI X tg e (iSeq X.K te) := pi_or (pi_list h) (pi_tup h)
def dItems (a : DF) : DIF := fun g => (a g).bind itemsD
section
variable {K : PySem.W.Frag}
theorem wk_list {a : Addr} {ds : List D} {v : V} {d : D} (hv : v = .ref a) (hd : itemsD d = some ds) (hl : ∀ (O : Addr → Prop) (H : Hp), Rp K O H v d → ∃ xs, SqL K H a xs ∧ RpA K O H xs ds) : Wk K (Itl K a) ds [(v, d)] where
  go := fun O i H hi h _ => by
    obtain ⟨xs, h1, h2⟩ := hl O H (h _ List.mem_cons_self)
    have : i < xs.length := by rw [h2.len]; exact hi
    exact ⟨xs, xs[i], h1, List.getElem?_eq_getElem this⟩
  yld := fun O i H w H' e o h y he => by
    obtain ⟨xs, h1, h2⟩ := hl O H (h _ List.mem_cons_self)
    obtain ⟨rfl, y⟩ := y
    obtain ⟨u, e1, e2⟩ := h2.get he
    have e3 := y xs h1
    rw [e1] at e3
    cases e3
    exact ⟨Evl.Ex.refl _, e2⟩
  stop := fun O H h _ => by
    obtain ⟨xs, h1, h2⟩ := hl O H (h _ List.mem_cons_self)
    exact ⟨xs, h1, by rw [h2.len]; exact Nat.le_refl _⟩
theorem wk_tup {a : Addr} {ds : List D} {v : V} {d : D} (hv : v = .ref a) (hd : itemsD d = some ds) (hl : ∀ (O : Addr → Prop) (H : Hp), Rp K O H v d → ∃ xs, SqT K H a xs ∧ RpA K O H xs ds) : Wk K (Itt K a) ds [(v, d)] where
  go := fun O i H hi h _ => by
    obtain ⟨xs, h1, h2⟩ := hl O H (h _ List.mem_cons_self)
    have : i < xs.length := by rw [h2.len]; exact hi
    exact ⟨xs, xs[i], h1, List.getElem?_eq_getElem this⟩
  yld := fun O i H w H' e o h y he => by
    obtain ⟨xs, h1, h2⟩ := hl O H (h _ List.mem_cons_self)
    obtain ⟨rfl, y⟩ := y
    obtain ⟨u, e1, e2⟩ := h2.get he
    have e3 := y xs h1
    rw [e1] at e3
    cases e3
    exact ⟨Evl.Ex.refl _, e2⟩
  stop := fun O H h _ => by
    obtain ⟨xs, h1, h2⟩ := hl O H (h _ List.mem_cons_self)
    exact ⟨xs, h1, by rw [h2.len]; exact Nat.le_refl _⟩
theorem ir_seq {te : TE} {a : DF} (ha : ER K te a) : IR K (iSeq K te) (dItems a) := fun g ds h H0 Oc pins ow σ H R Q q => by
  unfold dItems at h
  cases ea : a g with
  | none => rw [ea] at h; cases h
  | some x =>
    rw [ea] at h
    simp only [Option.bind_some] at h
    cases x <;> first | (cases h; done) | skip
    · cases h
      refine .inl (ha g _ ea H0 Oc pins ow σ H R _ fun v H1 e1 r1 => ?_)
      have r0 := r1
      cases r1 with
      | @lst a xs _ n e r => exact ⟨a, rfl, ⟨_, .of e⟩, q _ H1 _ e1 (fun p hp => by rw [List.mem_singleton.mp hp]; exact r0) (wk_list rfl rfl fun O H r => by cases r with | lst n e r => exact ⟨_, .of e, r⟩)⟩
    · cases h
      refine .inr (ha g _ ea H0 Oc pins ow σ H R _ fun v H1 e1 r1 => ?_)
      have r0 := r1
      have w : ∀ a, Wk K (Itt K a) ds [(.ref a, .tup ds)] := fun a => wk_tup rfl rfl fun O H r => by
        cases r with
        | tup n e r => exact ⟨_, .of e, r⟩
      cases r1 with
      | @tup a xs _ n e r => exact ⟨a, rfl, ⟨_, .of e⟩, q _ H1 _ e1 (fun p hp => by rw [List.mem_singleton.mp hp]; exact r0) (w a)⟩
    · rename_i ns
      cases h
      refine .inl (ha g _ ea H0 Oc pins ow σ H R _ fun v H1 e1 r1 => ?_)
      have r0 := r1
      have w : ∀ a, Wk K (Itl K a) (iL ns) [(.ref a, .scr ns)] := fun a => wk_list rfl rfl fun O H r => by
        cases r with
        | scr n e => exact ⟨_, .inl e, RpA.ofInts ns⟩
        | kscr e => exact ⟨_, e H, RpA.ofInts ns⟩
      cases r1 with
      | @scr a _ n e => exact ⟨a, rfl, ⟨_, .inl e⟩, q _ H1 _ e1 (fun p hp => by rw [List.mem_singleton.mp hp]; exact r0) (w a)⟩
      | @kscr a _ e => exact ⟨a, rfl, ⟨_, e H1⟩, q _ H1 _ e1 (fun p hp => by rw [List.mem_singleton.mp hp]; exact r0) (w a)⟩
/-- ranges -/
def rngL (lo : Int) (n : Nat) : List D := (List.range n).map fun i => .int (lo + (i : Nat))
theorem wk_rng (lo : Int) (n : Nat) : Wk K (Itr lo n) (rngL lo n) [] where
  go := fun O i H hi h _ => by unfold rngL at hi; rw [List.length_map, List.length_range] at hi; exact hi
  yld := fun O i H w H' e o h y he => by
    obtain ⟨rfl, rfl⟩ := y
    unfold rngL at he
    rw [List.getElem?_map] at he
    have hi : i < n := by
      cases z : (List.range n)[i]? with
      | none => rw [z] at he; cases he
      | some j => have := (List.getElem?_eq_some_iff.mp z).1; rw [List.length_range] at this; exact this
    rw [List.getElem?_range hi] at he
    cases he
    exact ⟨Evl.Ex.refl _, .int _⟩
  stop := fun O H h _ => by unfold rngL; rw [List.length_map, List.length_range]; exact Nat.le_refl _
def dRng1 (a : DAF) : DIF := fun g => (a g).bind fun xs => match xs with
  | [.int n] => if n ≤ 1000000 ∧ -1000000 ≤ n then some (rngL 0 n.toNat) else none
  | _ => none
def dRng2 (a : DAF) : DIF := fun g => (a g).bind fun xs => match xs with
  | [.int i, .int j] => if (i ≤ 1000000 ∧ -1000000 ≤ i) ∧ j ≤ 1000000 ∧ -1000000 ≤ j then some (rngL i (j - i).toNat) else none
  | _ => none
theorem ir_rng1 {ta : TA} {a : DAF} (ha : AR K ta a) : IR K (iRng1 ta) (dRng1 a) := fun g ds h H0 Oc pins ow σ H R Q q => by
  unfold dRng1 at h
  cases ea : a g with
  | none => rw [ea] at h; cases h
  | some x =>
    rw [ea] at h
    simp only [Option.bind_some] at h
    split at h
    · rename_i n
      split at h
      · rename_i hn
        cases h
        refine ha g _ ea H0 Oc pins ow σ H R _ fun vs H1 e1 r1 => ?_
        cases r1 with
        | cons r rr =>
          cases rr; cases r
          exact ⟨n, rfl, by omega, by omega, q _ H1 [] e1 (fun p hp => by cases hp) (wk_rng 0 _)⟩
      · cases h
    · cases h
/-- enumerate(a list) -/
def enumL : Nat → List D → List D
  | _, [] => []
  | n, d :: ds => .tup [.int (n : Int), d] :: enumL (n + 1) ds
def dEnum (a : DAF) : DIF := fun g => (a g).bind fun xs => match xs with
  | [.lst ds] => some (enumL 0 ds)
  | [.tup ds] => some (enumL 0 ds)
  | _ => none
end

/-! ### targets -/
abbrev DGF : Type := D → Gm → Option Gm
abbrev DGFs : Type := List D → Gm → Option Gm
def dName (i : Nat) : DGF := fun d g => if okSlot g i = true then some (g.set i (some (.v d))) else none
section
variable {K : PySem.W.Frag}
def dgNil : DGFs := fun ds g => match ds with
  | [] => some g
  | _ => none
def dgCons (f : DGF) (r : DGFs) : DGFs := fun ds g => match ds with
  | d :: ds => (f d g).bind fun g1 => r ds g1
  | [] => none
end
section
variable {K : PySem.W.Frag}
/-- targets drop what their slots owned, no more: said with the owners told -/
def GR' (K : PySem.W.Frag) (tg : TG) (f : DGF) : Prop := ∀ d g g', f d g = some g' → ∀ H0 Oc pins ow σ H v, Reps K H0 Oc pins ow σ H g → Rp K (OO Oc ow) H v d → ∀ Q : L2.St → Hp → Prop,
  (∀ ow' σ', (∀ i a, ow' i = some a → ow i = some a) → Reps K H0 Oc pins ow' σ' H g' → Q σ' H) → tg v σ H Q
def GRs' (K : PySem.W.Frag) (tg : TGs) (f : DGFs) : Prop := ∀ ds g g', f ds g = some g' → ∀ H0 Oc pins ow σ H vs, Reps K H0 Oc pins ow σ H g → RpA K (OO Oc ow) H vs ds → ∀ Q : L2.St → Hp → Prop,
  (∀ ow' σ', (∀ i a, ow' i = some a → ow i = some a) → Reps K H0 Oc pins ow' σ' H g' → Q σ' H) → tg vs σ H Q
theorem gr'_name (i : Nat) : GR' K (gName i) (dName i) := fun d g g' h H0 Oc pins ow σ H v R r Q q => by
  unfold dName at h
  split at h
  · rename_i hi
    cases h
    exact q _ _ (fun j a z => (dropW_of z).2) (R.setV hi r)
  · cases h
theorem grs'_nil : GRs' K gNil dgNil := fun ds g g' h H0 Oc pins ow σ H vs R r Q q => by
  unfold dgNil at h
  split at h
  · cases h; cases r
    exact ⟨rfl, q ow σ (fun _ _ z => z) R⟩
  · cases h
theorem grs'_cons {t : TG} {u : TGs} {f : DGF} {r : DGFs} (h1 : GR' K t f) (h2 : GRs' K u r) : GRs' K (gCons t u) (dgCons f r) := fun ds g g' h H0 Oc pins ow σ H vs R rr Q q => by
  unfold dgCons at h
  split at h
  · rename_i d ds
    cases e : f d g with
    | none => rw [e] at h; cases h
    | some g1 =>
      rw [e] at h
      simp only [Option.bind_some] at h
      cases rr with
      | cons a b =>
        refine ⟨_, _, rfl, h1 d g g1 e H0 Oc pins ow σ H _ R a _ fun ow1 σ1 k1 R1 => ?_⟩
        exact h2 ds g1 g' h H0 Oc pins ow1 σ1 H _ R1 (b.kp (R.kpDrop k1)) Q fun ow2 σ2 k2 R2 => q ow2 σ2 (fun i a z => k1 i a (k2 i a z)) R2
  · cases h
def dgTup (n : Nat) (r : DGFs) : DGF := fun d g => match d with
  | .tup ds => if ds.length = n then r ds g else none
  | _ => none
theorem gr'_tup {n : Nat} {u : TGs} {r : DGFs} (h2 : GRs' K u r) : GR' K (gTup K n u) (dgTup n r) := fun d g g' h H0 Oc pins ow σ H v R rr Q q => by
  unfold dgTup at h
  split at h
  · split at h
    · rename_i ds hn
      cases rr with
      | tup m e x => exact ⟨_, _, rfl, .of e, by rw [x.len]; exact hn, h2 ds g g' h H0 Oc pins ow σ H _ R x Q q⟩
    · cases h
  · cases h
end
end Zk
end

section
set_option Elab.async false
set_option linter.all false
set_option maxRecDepth 100000
set_option autoImplicit false
set_option maxHeartbeats 2000000
/-! Comprehensions; statements; loops; a def's promise. -/
namespace Zk
open PySem L2 PyProof.Rows
open Evl (Ex)

/-! ### what comes out of statements -/
inductive Out where
  | nx (g : Gm) | bk (g : Gm) | ct (g : Gm) | rt (w : Wd)
abbrev SF : Type := Gm → Option Out
def Post (K : PySem.W.Frag) (H0 : Hp) (Oc : Addr → Prop) (pins : Pn) (De : Ends) : Out → Prop
  | .nx g => ∀ ow σ H, Reps K H0 Oc pins ow σ H g → De.nx σ H
  | .bk g => ∀ ow σ H, Reps K H0 Oc pins ow σ H g → De.bk σ H
  | .ct g => ∀ ow σ H, Reps K H0 Oc pins ow σ H g → De.ct σ H
  | .rt (.v d) => ∀ v H, Ex H0 H → Rp K Oc H v d → De.rt v H
  | .rt (.o d) => ∀ p H, Ex H0 H → H0 p = none → RpO K (fun a => Oc a ∨ a = p) H p d → De.rt (.ref p) H
def SR (K : PySem.W.Frag) (ts : TS) (t : SF) : Prop := ∀ g out, t g = some out → ∀ H0 Oc pins ow σ H, Reps K H0 Oc pins ow σ H g → ∀ De : Ends, Post K H0 Oc pins De out → ts De σ H
/-- an expression that makes a thing of one's own -/
def EO (K : PySem.W.Frag) (te : TE) (t : DF) : Prop := ∀ g d, t g = some d → ∀ H0 Oc pins ow σ H, Reps K H0 Oc pins ow σ H g → ∀ Q : VK, (∀ p H', Ex H H' → H p = none → RpO K (fun a => OO Oc ow a ∨ a = p) H' p d → Q (.ref p) H') → te σ H Q

section
variable {K : PySem.W.Frag} {ta tb te : TE} {a b : DF} {ts tu : TS} {s u : SF} {tt : TT} {t : DTF}
theorem eo_lst {tr : TA} {s : DAF} (ha : AR K tr s) : EO K (tLst tr) (dN mkLst s) := fun g d h H0 Oc pins ow σ H R Q q => by
  unfold dN at h
  cases ea : s g with
  | none => rw [ea] at h; cases h
  | some x =>
    rw [ea] at h
    unfold mkLst at h
    simp only [Option.bind_some] at h
    split at h
    · rename_i hl
      cases h
      refine ha g x ea H0 Oc pins ow σ H R _ fun v H1 e1 r1 => ⟨by rw [r1.len]; exact Evl.sz_of hl, fun p hp => ?_⟩
      have e2 := Evl.Ex.new (o := .lst v) hp
      refine q _ _ (e1.trans e2) (Evl.fresh_back e1 hp) ⟨v, upd_same, r1.kp fun b o n e => ⟨fun z => ?_, e2 b o e⟩⟩
      rcases z with z | z
      · exact n z
      · rw [z, hp] at e; cases e
    · cases h
/-! ### comprehensions -/
/-- the comprehension's items -/
def lcL (tg : DGF) (tt : DTF) (te : DF) (g : Gm) : List D → Option (List D)
  | [] => some []
  | d :: ds => (tg d g).bind fun g1 => (tt g1).bind fun b => if b = true then (te g1).bind fun e => (lcL tg tt te g ds).map (e :: ·) else lcL tg tt te g ds
def free (g : Gm) (vs : List Nat) : Bool := vs.all fun v => !ownAt g v
def wipeG (g : Gm) : List Nat → Gm
  | [] => g
  | v :: vs => (wipeG g vs).set v none
def dLc (it : DIF) (tg : DGF) (tt : DTF) (te : DF) (vs : List Nat) : DF := fun g => if free g vs = true then (it g).bind fun ds => if ds.length ≤ 100000 then (lcL tg tt te (wipeG g vs) ds).map .lst else none else none
def dYes : DTF := fun _ => some true
theorem tr_yes : TR K tYes dYes := fun g b h H0 Oc pins ow σ H R Q q => by cases h; exact q H (Evl.Ex.refl H)
theorem wipe_get (σ : L2.St) : ∀ (vs : List Nat) (i : Nat), (L2.wipe σ vs)[i]? = if i ∈ vs then (if i < σ.length then some none else none) else σ[i]?
  | [], i => by simp [L2.wipe]
  | v :: vs, i => by
    show ((L2.wipe σ vs).set v none)[i]? = _
    rw [List.getElem?_set, L2.wipe_length, wipe_get σ vs i]
    by_cases h : v = i
    · subst h
      simp
    · rw [if_neg h]
      have : (i ∈ v :: vs) = (i ∈ vs) := by
        rw [List.mem_cons]
        exact propext ⟨fun q => q.resolve_left (fun z => h z.symm), .inr⟩
      simp only [this]
theorem wipe_set (σ τ : L2.St) (vs : List Nat) {j : Nat} {x : Option V} (hj : j ∈ vs) (h : L2.wipe τ vs = L2.wipe σ vs) : L2.wipe (τ.set j x) vs = L2.wipe σ vs := by
  rw [← h]
  apply List.ext_getElem?
  intro i
  rw [wipe_get, wipe_get]
  by_cases hi : i ∈ vs
  · rw [if_pos hi, if_pos hi, List.length_set]
  · rw [if_neg hi, if_neg hi, List.getElem?_set_ne (fun z => hi (by rw [← z]; exact hj))]
theorem wipe_wipe (σ : L2.St) (vs : List Nat) : L2.wipe (L2.wipe σ vs) vs = L2.wipe σ vs := by
  apply List.ext_getElem?
  intro i
  rw [wipe_get, wipe_get]
  by_cases hi : i ∈ vs
  · rw [if_pos hi, if_pos hi, L2.wipe_length]
  · rw [if_neg hi, if_neg hi]
theorem wipeG_length (g : Gm) : ∀ vs : List Nat, (wipeG g vs).length = g.length
  | [] => rfl
  | v :: vs => by unfold wipeG; rw [List.length_set, wipeG_length g vs]
theorem wipeG_get (g : Gm) : ∀ (vs : List Nat) (i : Nat), (wipeG g vs)[i]? = if i ∈ vs then (if i < g.length then some none else none) else g[i]?
  | [], i => by simp [wipeG]
  | v :: vs, i => by
    show ((wipeG g vs).set v none)[i]? = _
    rw [List.getElem?_set, wipeG_length, wipeG_get g vs i]
    by_cases h : v = i
    · subst h
      simp
    · rw [if_neg h]
      have : (i ∈ v :: vs) = (i ∈ vs) := by
        rw [List.mem_cons]
        exact propext ⟨fun q => q.resolve_left (fun z => h z.symm), .inr⟩
      simp only [this]
theorem free_at {g : Gm} {vs : List Nat} (h : free g vs = true) {v : Nat} (hv : v ∈ vs) (d : D) : g[v]? ≠ some (some (.o d)) := fun e => by
  have := List.all_eq_true.mp h v hv
  unfold ownAt at this
  rw [e] at this
  cases this
theorem wipeG_not {g : Gm} {vs : List Nat} {v : Nat} (hv : v ∈ vs) (d : Wd) : (wipeG g vs)[v]? ≠ some (some d) := fun e => by
  rw [wipeG_get, if_pos hv] at e
  split at e <;> cases e
theorem Reps.wipe {H0 H : Hp} {Oc : Addr → Prop} {pins : Pn} {ow : OW} {σ : L2.St} {g : Gm} (R : Reps K H0 Oc pins ow σ H g) {vs : List Nat} (hf : free g vs = true) : Reps K H0 Oc pins ow (L2.wipe σ vs) H (wipeG g vs) where
  len := by rw [L2.wipe_length, wipeG_length]; exact R.len
  ex := R.ex
  oc := R.oc
  fr := R.fr
  inj := R.inj
  is := fun i a h => by
    obtain ⟨d, e⟩ := R.is i a h
    have : i ∉ vs := fun z => free_at hf z d e
    rw [wipeG_get, if_neg this]
    exact ⟨d, e⟩
  val := fun i d h => by
    have : i ∉ vs := fun z => wipeG_not z _ h
    rw [wipeG_get, if_neg this] at h
    rw [wipe_get, if_neg this]
    exact R.val i d h
  own := fun i d h => by
    have : i ∉ vs := fun z => wipeG_not z _ h
    rw [wipeG_get, if_neg this] at h
    rw [wipe_get, if_neg this]
    exact R.own i d h
  pin := R.pin
  slf := R.slf
/-- a target that stores into the comprehension's own slots alone -/
def GRc (K : PySem.W.Frag) (tg : TG) (f : DGF) (vs : List Nat) : Prop := ∀ d g g', (∀ v ∈ vs, ∀ d', g[v]? ≠ some (some (Wd.o d'))) → f d g = some g' → ∀ H0 Oc pins ow σ H v, Reps K H0 Oc pins ow σ H g → Rp K (OO Oc ow) H v d → ∀ Q : L2.St → Hp → Prop,
  (∀ σ', Reps K H0 Oc pins ow σ' H g' → L2.wipe σ' vs = L2.wipe σ vs → (∀ v ∈ vs, ∀ d', g'[v]? ≠ some (some (Wd.o d'))) → Q σ' H) → tg v σ H Q
theorem dropW_id {H0 H : Hp} {Oc : Addr → Prop} {pins : Pn} {ow : OW} {σ : L2.St} {g : Gm} (R : Reps K H0 Oc pins ow σ H g) {j : Nat} (h : ∀ d', g[j]? ≠ some (some (Wd.o d'))) : dropW ow j = ow := by
  funext i
  unfold dropW
  split
  · rename_i e
    cases q : ow i with
    | none => rfl
    | some a =>
      obtain ⟨d, hd⟩ := R.is i a q
      rw [e] at hd
      exact absurd hd (h d)
  · rfl
theorem grc_name {j : Nat} {vs : List Nat} (hj : j ∈ vs) : GRc K (gName j) (dName j) vs := fun d g g' hn h H0 Oc pins ow σ H v R r Q q => by
  unfold dName at h
  split at h
  · rename_i hi
    cases h
    have R1 := R.setV hi r
    rw [dropW_id R (hn j hj)] at R1
    refine q _ R1 (wipe_set σ σ vs hj rfl) fun w hw d' z => ?_
    by_cases e : w = j
    · rw [e, List.getElem?_set_self (okSlot_lt hi)] at z; cases z
    · rw [List.getElem?_set_ne (Ne.symm e)] at z; exact hn w hw d' z
  · cases h
theorem grc_tup2 {i j : Nat} {vs : List Nat} (hi : i ∈ vs) (hj : j ∈ vs) : GRc K (gTup K 2 (gCons (gName i) (gCons (gName j) gNil))) (dgTup 2 (dgCons (dName i) (dgCons (dName j) dgNil))) vs := fun d g g' hn h H0 Oc pins ow σ H v R r Q q => by
  unfold dgTup at h
  split at h
  · rename_i ds
    split at h
    · rename_i hl
      match ds, hl with
      | [d1, d2], _ =>
        have h : ((dName i d1 g).bind fun g1 => (dName j d2 g1).bind fun g2 => some g2) = some g' := h
        cases e1 : dName i d1 g with
        | none => rw [e1] at h; cases h
        | some g1 =>
          rw [e1] at h
          cases e2 : dName j d2 g1 with
          | none => simp [e2] at h
          | some g2 =>
            simp only [Option.bind_some, e2] at h
            cases h
            have fin : ∀ (a : Addr) xs, SqT K H a xs → RpA K (OO Oc ow) H xs [d1, d2] → gTup K 2 (gCons (gName i) (gCons (gName j) gNil)) (.ref a) σ H Q := fun a xs hs x => by
              cases x with
              | cons x1 xr =>
                cases xr with
                | cons x2 xr =>
                  cases xr
                  exact ⟨_, _, rfl, hs, rfl, _, _, rfl, grc_name hi d1 g g1 hn e1 H0 Oc pins ow σ H _ R x1 _ fun σ1 R1 w1 hn1 =>
                    ⟨_, _, rfl, grc_name hj d2 g1 g' hn1 e2 H0 Oc pins ow σ1 H _ R1 x2 _ fun σ2 R2 w2 hn2 => ⟨rfl, q σ2 R2 (w2.trans w1) hn2⟩⟩⟩
            cases r with
            | tup m e x => exact fin _ _ (.of e) x
    · cases h
  · cases h
open Classical in
theorem Reps.rebase {H0 H H2 : Hp} {Oc : Addr → Prop} {pins : Pn} {ow : OW} {σ : L2.St} {g : Gm} {Dl : Addr} (R : Reps K H0 Oc pins ow σ H g) (hD : H Dl = none) (e : Ex H H2) (h2 : Lv H2 Dl) :
    ∃ B, Reps K B (fun a => Oc a ∨ a = Dl) pins ow σ H2 g := by
  have k : Kp (OO Oc ow) H (OO (fun a => Oc a ∨ a = Dl) ow) H2 := fun a o n h => ⟨fun z => by
    rcases z with (z | z) | z
    · exact n (.inl z)
    · rw [z, hD] at h; cases h
    · exact n (.inr z), e a o h⟩
  refine ⟨fun b => if ∃ i, ow i = some b then none else H2 b, ?_⟩
  exact {
    len := R.len
    ex := fun a o h => by
      have h : (if ∃ i, ow i = some a then none else H2 a) = some o := h
      split at h
      · cases h
      · exact h
    oc := fun a h => by
      have nw : ¬ ∃ i, ow i = some a := fun ⟨i, z⟩ => by
        rcases h with h | h
        · exact (R.oc a h).1 (R.fr i a z).1
        · rw [h] at z; exact (R.fr i Dl z).2.1 hD
      show (if ∃ i, ow i = some a then none else H2 a) ≠ none ∧ ∀ xs, (if ∃ i, ow i = some a then none else H2 a) ≠ some (.tup xs)
      rw [if_neg nw]
      rcases h with h | h
      · exact (R.oo a (.inl h)).ex e
      · rw [h]; exact h2
    fr := fun i a h => ⟨if_pos ⟨i, h⟩, (R.fr i a h).2.ex e⟩
    inj := R.inj
    is := R.is
    val := fun i d h => let ⟨v, h1, h2⟩ := R.val i d h; ⟨v, h1, h2.kp k⟩
    own := fun i d h => let ⟨a, h1, h2, h3⟩ := R.own i d h; ⟨a, h1, h2, h3.kp k (by
      cases y : H a with
      | none => exact absurd y h3.there
      | some o => exact e a o y)⟩
    pin := fun p h => (R.pin p h).kp k
    slf := R.slf }
/-- the comprehension, at the new list's place -/
theorem lc_go {J : It} {tg : TG} {f : DGF} {tte : TT} {ft : DTF} {tee : TE} {fe : DF} {vs : List Nat} {ds es : List D} {ps : List (V × D)} {H0 H1 : Hp} {Oc : Addr → Prop} {pins : Pn} {ow : OW} {σ : L2.St} {g : Gm} {Q : VK}
    {Φ : Hp → Prop} (hw : WkP K J ds ps Φ) (hg : GRc K tg f vs) (ht : TR K tte ft) (he : ER K tee fe) (R : Reps K H0 Oc pins ow σ H1 g) (hf : free g vs = true) (hps : ∀ p ∈ ps, Rp K (OO Oc ow) H1 p.1 p.2)
    (hz : ds.length ≤ 100000) (h : lcL f ft fe (wipeG g vs) ds = some es) (hΦ : ∀ H, Ex H1 H → Φ H) (hq : ∀ p H', H1 p = none → Ex H1 H' → RpO K (fun a => OO Oc ow a ∨ a = p) H' p (.lst es) → Q (.ref p) H') :
    ∀ Dl, H1 Dl = none → ∃ W : Nat → Nat → Hp → Prop, (∃ m, W 0 m (L2.upd H1 Dl (.lst []))) ∧ ∀ i m H, W i m H →
      (J.stop i H ∧ Q (.ref Dl) H) ∨ (J.go i H ∧ ∃ Nx : Hp → Prop, (∀ H', Nx H' → ∃ m', m' < m ∧ W (i + 1) m' H') ∧ ∀ x H', J.yld i H x H' → tg x (L2.wipe σ vs) H' fun σ2 H2 => L2.wipe σ2 vs = L2.wipe σ vs ∧ tte σ2 H2 fun b H3 =>
        if b = true then tee σ2 H3 fun y H4 => ∃ acc, H4 Dl = some (.lst acc) ∧ acc.length < sizeLine ∧ Nx (L2.upd H4 Dl (.lst (acc ++ [y]))) else Nx H3) := by
  intro Dl hD
  have oeq : ∀ a, OO (fun a => Oc a ∨ a = Dl) ow a ↔ (OO Oc ow a ∨ a = Dl) := fun a =>
    ⟨fun z => z.elim (fun z => z.elim (fun z => .inl (.inl z)) .inr) (fun z => .inl (.inr z)), fun z => z.elim (fun z => z.elim (fun z => .inl (.inl z)) (fun z => .inr z)) (fun z => .inl (.inr z))⟩
  -- what is held between turns: made so far
  let P : Nat → Hp → Prop := fun i H => ∃ acc done_ rest, Ex H1 H ∧ H Dl = some (.lst acc) ∧ RpA K (OO (fun a => Oc a ∨ a = Dl) ow) H acc done_ ∧ lcL f ft fe (wipeG g vs) (ds.drop i) = some rest ∧ es = done_ ++ rest ∧ done_.length ≤ i
  refine ⟨fun i m H => m = ds.length - i ∧ i ≤ ds.length ∧ P i H, ⟨ds.length, rfl, Nat.zero_le _, ⟨[], [], es, Evl.Ex.new hD, upd_same, .nil, h, rfl, Nat.le_refl _⟩⟩, ?_⟩
  rintro i m H ⟨rfl, hi, ⟨acc, dn, rest, e1, hl, ra, hr, hes, hln⟩⟩
  obtain ⟨B, RB⟩ := R.rebase hD e1 ⟨by rw [hl]; exact fun z => (by cases z), by rw [hl]; exact fun _ z => (by cases z)⟩
  have kps : ∀ p ∈ ps, Rp K (OO (fun a => Oc a ∨ a = Dl) ow) H p.1 p.2 := fun p hp => (hps p hp).kp fun a o n q => ⟨fun z => (by
    rcases (oeq a).mp z with z | z
    · exact n z
    · rw [z, hD] at q; cases q), e1 a o q⟩
  by_cases hlt : i < ds.length
  · refine .inr ⟨hw.go _ i H hlt kps (hΦ H e1), fun H' => P (i + 1) H', fun H' p => ⟨ds.length - (i + 1), by omega, rfl, hlt, p⟩, fun x H' y => ?_⟩
    have hd : ds[i]? = some ds[i] := List.getElem?_eq_getElem hlt
    obtain ⟨e2, rx⟩ := hw.yld _ i H x H' ds[i] RB.oo kps y hd
    have hdrop : ds.drop i = ds[i] :: ds.drop (i + 1) := by rw [List.drop_eq_getElem_cons hlt]
    rw [hdrop] at hr
    unfold lcL at hr
    cases e3 : f ds[i] (wipeG g vs) with
    | none => rw [e3] at hr; cases hr
    | some g1 =>
      rw [e3] at hr
      simp only [Option.bind_some] at hr
      cases e4 : ft g1 with
      | none => rw [e4] at hr; cases hr
      | some b =>
        rw [e4] at hr
        simp only [Option.bind_some] at hr
        have RW := ((RB.grow e2).wipe hf)
        refine hg ds[i] (wipeG g vs) g1 (fun v hv d' => wipeG_not hv _) e3 B _ pins ow _ H' x RW rx _ fun σ2 R2 w2 _ => ⟨w2.trans (wipe_wipe σ vs), ?_⟩
        refine ht g1 b e4 B _ pins ow σ2 H' R2 _ fun H3 e5 => ?_
        cases b with
        | true =>
          rw [if_pos rfl] at hr ⊢
          cases e6 : fe g1 with
          | none => rw [e6] at hr; cases hr
          | some e =>
            rw [e6] at hr
            simp only [Option.bind_some] at hr
            cases e7 : lcL f ft fe (wipeG g vs) (ds.drop (i + 1)) with
            | none => rw [e7] at hr; cases hr
            | some rest' =>
              rw [e7] at hr
              have hr2 : e :: rest' = rest := Option.some.inj hr
              refine he g1 e e6 B _ pins ow σ2 H3 (R2.grow e5) _ fun yv H4 e8 ry => ?_
              have hl4 : H4 Dl = some (.lst acc) := e8 _ _ (e5 _ _ (e2 _ _ hl))
              have k4 : Kp (OO (fun a => Oc a ∨ a = Dl) ow) H4 (OO (fun a => Oc a ∨ a = Dl) ow) (L2.upd H4 Dl (.lst (acc ++ [yv]))) := fun a o n q => ⟨n, by
                rw [upd_ne (fun z => n ((oeq a).mpr (.inr z)))]; exact q⟩
              refine ⟨acc, hl4, Evl.sz_lt (by rw [ra.len]; omega), ⟨acc ++ [yv], dn ++ [e], rest', Evl.Ex.mut (((e1.trans e2).trans e5).trans e8) hD, upd_same, ?_, e7, ?_, ?_⟩⟩
              · exact RpA.app ((((ra.ex e2).ex e5).ex e8).kp k4) (.one (ry.kp k4))
              · rw [hes, ← hr2, List.append_assoc]; rfl
              · rw [List.length_append, List.length_singleton]; omega
        | false =>
          rw [if_neg Bool.false_ne_true] at hr ⊢
          exact ⟨acc, dn, rest, (e1.trans e2).trans e5, e5 _ _ (e2 _ _ hl), (ra.ex e2).ex e5, hr, hes, by omega⟩
  · have hi2 : i = ds.length := by omega
    subst hi2
    refine .inl ⟨hw.stop _ H kps (hΦ H e1), ?_⟩
    rw [List.drop_length] at hr
    have hr' : rest = [] := (Option.some.inj hr).symm
    rw [hr', List.append_nil] at hes
    refine hq Dl H hD e1 ⟨acc, hl, ?_⟩
    rw [hes]
    exact ra.kp fun a o n q => ⟨fun z => n ((oeq a).mpr z), q⟩
theorem eo_lc {wi : TI} {it : DIF} {tg : TG} {f : DGF} {tte : TT} {ft : DTF} {tee : TE} {fe : DF} {vs : List Nat} (hi : IR K wi it) (hg : GRc K tg f vs) (ht : TR K tte ft) (he : ER K tee fe) : EO K (tLc wi tg tte tee vs) (dLc it f ft fe vs) := fun g d h H0 Oc pins ow σ H R Q q => by
  unfold dLc at h
  split at h
  · rename_i hf
    cases ei : it g with
    | none => rw [ei] at h; cases h
    | some ds =>
      rw [ei] at h
      simp only [Option.bind_some] at h
      split at h
      · rename_i hz
        cases el : lcL f ft fe (wipeG g vs) ds with
        | none => rw [el] at h; cases h
        | some es =>
          rw [el] at h
          cases h
          exact hi g ds ei H0 Oc pins ow σ H R _ fun J H1 ps e1 hps hw => lc_go hw hg ht he (R.grow e1) hf hps hz el (fun _ _ => trivial) fun p H' hp e' r => q p H' (e1.trans e') (Evl.fresh_back e1 hp) r
      · cases h
  · cases h
theorem er_of_eo (h : EO K te a) : ER K te a := fun g d e H0 Oc pins ow σ H R Q q => h g d e H0 Oc pins ow σ H R Q fun p H' e' hp r => q _ H' e' (by
  have n : ¬ OO Oc ow p := R.new hp
  cases d with
  | lst ds => obtain ⟨xs, h, r⟩ := r; exact .lst n h (r.kp fun a o z q => ⟨fun y => z (.inl y), q⟩)
  | ins C gs => obtain ⟨dx, fs, h, r⟩ := r; exact .ins n h (r.kp fun a o z q => ⟨fun y => z (.inl y), q⟩)
  | dct kvs => obtain ⟨xs, h, e1, r⟩ := r; exact .dct n h e1 (r.kp fun a o z q => ⟨fun y => z (.inl y), q⟩)
  | dck kvs => obtain ⟨xs, h, e1, r⟩ := r; exact .dck n h e1 (r.kp fun a o z q => ⟨fun y => z (.inl y), q⟩)
  | sti w ns => exact .sti n r
  | _ => exact r.elim)
end
end Zk
end

section
set_option Elab.async false
set_option linter.all false
set_option maxRecDepth 100000
set_option autoImplicit false
set_option maxHeartbeats 2000000
/-! Statements, loops, a def's promise, calls. -/
namespace Zk
open PySem L2 PyProof.Rows
open Evl (Ex)

section
variable {K : PySem.W.Frag} {ta tb te : TE} {a b : DF} {ts tu : TS} {s u : SF} {tt : TT} {t : DTF}
def sAsg (a : DF) (f : DGF) : SF := fun g => (a g).bind fun d => (f d g).map .nx
theorem sr_asg {tg : TG} {f : DGF} (ha : ER K te a) (hg : GR' K tg f) : SR K (tAsg te tg) (sAsg a f) := fun g out h H0 Oc pins ow σ H R De P => by
  unfold sAsg at h
  cases ea : a g with
  | none => rw [ea] at h; cases h
  | some d =>
    rw [ea] at h
    simp only [Option.bind_some] at h
    cases ef : f d g with
    | none => rw [ef] at h; cases h
    | some g1 =>
      rw [ef] at h
      cases h
      exact ha g d ea H0 Oc pins ow σ H R _ fun v H1 e1 r1 => hg d g g1 ef H0 Oc pins ow σ H1 v (R.grow e1) r1 _ fun ow' σ' _ R' => P ow' σ' H1 R'
/-- a slot is given a new thing of one's own -/
def sAsgO (a : DF) (i : Nat) : SF := fun g => (a g).bind fun d => if okSlot g i = true then some (.nx (g.set i (some (.o d)))) else none
theorem sr_asgO {i : Nat} (ha : EO K te a) : SR K (tAsg te (gName i)) (sAsgO a i) := fun g out h H0 Oc pins ow σ H R De P => by
  unfold sAsgO at h
  cases ea : a g with
  | none => rw [ea] at h; cases h
  | some d =>
    rw [ea] at h
    simp only [Option.bind_some] at h
    split at h
    · rename_i hi
      cases h
      exact ha g d ea H0 Oc pins ow σ H R _ fun p H1 e1 hp r1 => P _ _ H1 (R.setO hi hp e1 r1)
    · cases h
def sNext : SF := fun g => some (.nx g)
theorem sr_next : SR K tNext sNext := fun g out h H0 Oc pins ow σ H R De P => by cases h; exact P ow σ H R
def sBreak : SF := fun g => some (.bk g)
def sCont : SF := fun g => some (.ct g)
def sThen (o : Out) (u : SF) : Option Out := match o with
  | .nx g => u g
  | .bk g => some (.bk g)
  | .ct g => some (.ct g)
  | .rt w => some (.rt w)
def sSeq (s u : SF) : SF := fun g => (s g).bind fun o => sThen o u
theorem sr_seq (h1 : SR K ts s) (h2 : SR K tu u) : SR K (tSeq ts tu) (sSeq s u) := fun g out h H0 Oc pins ow σ H R De P => by
  unfold sSeq at h
  cases e1 : s g with
  | none => rw [e1] at h; cases h
  | some o =>
    rw [e1] at h
    simp only [Option.bind_some] at h
    refine h1 g o e1 H0 Oc pins ow σ H R _ ?_
    cases o with
    | nx g1 => exact fun ow' σ' H' R' => h2 g1 out h H0 Oc pins ow' σ' H' R' De P
    | bk g1 => cases h; exact P
    | ct g1 => cases h; exact P
    | rt w =>
      cases h
      cases w with
      | v d => exact P
      | o d => exact P
def sRet (a : DF) : SF := fun g => (a g).map fun d => .rt (.v d)
theorem kp_oc (Oc : Addr → Prop) (ow : OW) (H : Hp) : Kp (OO Oc ow) H Oc H := fun a o n e => ⟨fun z => n (.inl z), e⟩
theorem sr_ret (ha : ER K te a) : SR K (tRet te) (sRet a) := fun g out h H0 Oc pins ow σ H R De P => by
  unfold sRet at h
  cases ea : a g with
  | none => rw [ea] at h; cases h
  | some d =>
    rw [ea] at h
    cases h
    exact ha g d ea H0 Oc pins ow σ H R _ fun v H1 e1 r1 => P v H1 (R.ex.trans e1) (r1.kp (kp_oc Oc ow H1))
def sRetO (a : DF) : SF := fun g => (a g).map fun d => .rt (.o d)
theorem sr_retO (ha : EO K te a) : SR K (tRet te) (sRetO a) := fun g out h H0 Oc pins ow σ H R De P => by
  unfold sRetO at h
  cases ea : a g with
  | none => rw [ea] at h; cases h
  | some d =>
    rw [ea] at h
    cases h
    exact ha g d ea H0 Oc pins ow σ H R _ fun p H1 e1 hp r1 => P p H1 (R.ex.trans e1) (R.fresh0 hp) (r1.kp (fun b o n q => ⟨fun z => n (z.imp .inl id), q⟩) rfl)
/-- return x, x a list of one's own -/
def sRetV (i : Nat) : SF := fun g => match g[i]? with
  | some (some (.o d)) => some (.rt (.o d))
  | _ => none
theorem sr_retV (i : Nat) : SR K (tRet (tVar i)) (sRetV i) := fun g out h H0 Oc pins ow σ H R De P => by
  unfold sRetV at h
  split at h
  · rename_i d hd
    cases h
    obtain ⟨p, h1, h2, h3⟩ := R.own i d hd
    refine ⟨.ref p, h2, P p H R.ex (R.fr i p h1).1 (h3.kp (fun b o n q => ⟨fun z => ?_, q⟩) rfl)⟩
    rcases z with z | z
    · exact n (.inl z)
    · exact n (.inr ⟨i, by rw [z]; exact h1⟩)
  · cases h
def sRetN : SF := fun _ => some (.rt (.v .non))
def sIf (t : DTF) (s u : SF) : SF := fun g => (t g).bind fun b => if b = true then s g else u g
theorem sr_if (ht : TR K tt t) (h1 : SR K ts s) (h2 : SR K tu u) : SR K (tIfS tt ts tu) (sIf t s u) := fun g out h H0 Oc pins ow σ H R De P => by
  unfold sIf at h
  cases ea : t g with
  | none => rw [ea] at h; cases h
  | some b =>
    rw [ea] at h
    simp only [Option.bind_some] at h
    refine ht g b ea H0 Oc pins ow σ H R _ fun H1 e1 => ?_
    cases b with
    | true =>
      rw [if_pos rfl] at h ⊢
      exact h1 g out h H0 Oc pins ow σ H1 (R.grow e1) De P
    | false =>
      rw [if_neg Bool.false_ne_true] at h ⊢
      exact h2 g out h H0 Oc pins ow σ H1 (R.grow e1) De P
/-- owned things read by name are handed on: known from here on -/
def sFrz (fz : List Nat) (s : SF) : SF := fun g => s (frzs g fz)
theorem sr_frz (fz : List Nat) (h1 : SR K ts s) : SR K ts (sFrz fz s) := fun g out h H0 Oc pins ow σ H R De P => by
  obtain ⟨ow', R'⟩ := R.frzs fz
  exact h1 _ out h H0 Oc pins ow' σ H R' De P
/-- xs.append(e) -/
def sApp (i : Nat) (a : DF) : SF := fun g => (a g).bind fun d => match g[i]? with
  | some (some (.o (.lst ds))) => if ds.length < 100000 then some (.nx (g.set i (some (.o (.lst (ds ++ [d])))))) else none
  | _ => none
theorem sr_app {i : Nat} (ha : ER K te a) : SR K (tDrop (tBM K "list" rAppend (tVar i) (tCons te tNil))) (sApp i a) := fun g out h H0 Oc pins ow σ H R De P => by
  unfold sApp at h
  cases ea : a g with
  | none => rw [ea] at h; cases h
  | some d =>
    rw [ea] at h
    simp only [Option.bind_some] at h
    split at h
    · rename_i ds hd
      split at h
      · rename_i hl
        cases h
        obtain ⟨p, h1, h2, xs, h3, h4⟩ := R.own i _ hd
        refine ⟨.ref p, h2, .inl ⟨rfl, _, .of h3⟩, ?_⟩
        refine ha g d ea H0 Oc pins ow σ H R _ fun v H1 e1 r1 => ?_
        have k : Kp (OO Oc ow) H1 (OO Oc ow) (upd H1 p (.lst (xs ++ [v]))) := fun b o n q => ⟨n, by rw [upd_ne (fun z => n (.inr ⟨i, by rw [z]; exact h1⟩))]; exact q⟩
        refine ⟨p, xs, v, rfl, rfl, e1 _ _ h3, Evl.sz_lt (by rw [h4.len]; exact hl), P ow σ _ ((R.grow e1).upd hd h1 ⟨xs ++ [v], upd_same, RpA.app ((h4.ex e1).kp k) (.one (r1.kp k))⟩)⟩
      · cases h
    · cases h
/-- xs[i] = e -/
def sSetI (i : Nat) (b : DF) (a : DF) : SF := fun g => (a g).bind fun d => (b g).bind fun x => match x, g[i]? with
  | .int k, some (some (.o (.lst ds))) => (ixN ds.length k).map fun j => .nx (g.set i (some (.o (.lst (ds.set j d)))))
  | _, _ => none
/-- self.f = e -/
def putD (f : Str) (d : D) : List (Str × D) → List (Str × D)
  | [] => [(f, d)]
  | (n, e) :: r => if n = f then (n, d) :: r else (n, e) :: putD f d r
theorem RpF.put {O : Addr → Prop} {H : Hp} {f : Str} {v : V} {d : D} (r : Rp K O H v d) : ∀ {fs : List (Str × V)} {gs : List (Str × D)}, RpF K O H fs gs → RpF K O H (putF f v fs) (putD f d gs)
  | _, _, .nil => .cons r .nil
  | _, _, .cons (n := n) h t => by
    unfold putF putD
    by_cases e : n = f
    · rw [if_pos e, if_pos e]; exact .cons r t
    · rw [if_neg e, if_neg e]; exact .cons h (t.put r)
theorem RpF.len {O : Addr → Prop} {H : Hp} : ∀ {fs : List (Str × V)} {gs : List (Str × D)}, RpF K O H fs gs → fs.length = gs.length
  | _, _, .nil => rfl
  | _, _, .cons _ t => congrArg (· + 1) t.len
/-! ### for -/
def loopD (f : DGF) (s : SF) : List D → SF
  | [], g => some (.nx g)
  | d :: ds, g => (f d g).bind fun g1 => (s g1).bind fun o => match o with
    | .nx g2 => loopD f s ds g2
    | .ct g2 => loopD f s ds g2
    | .bk g2 => some (.nx g2)
    | .rt w => some (.rt w)
def sFor (it : DIF) (f : DGF) (s : SF) : SF := fun g => (it g).bind fun ds => loopD f s ds g
theorem sr_for {wi : TI} {it : DIF} {tg : TG} {f : DGF} (hi : IR K wi it) (hg : GR' K tg f) (hs : SR K ts s) : SR K (tFor wi tg ts) (sFor it f s) := fun g out h H0 Oc pins ow σ H R De P => by
  unfold sFor at h
  cases ei : it g with
  | none => rw [ei] at h; cases h
  | some ds =>
    rw [ei] at h
    simp only [Option.bind_some] at h
    refine hi g ds ei H0 Oc pins ow σ H R _ fun J H1 ps e1 hps hw => ?_
    let Pv : Nat → L2.St → Hp → Prop := fun i σ' H' => ∃ ow' g', Reps K H0 Oc (pins.more ps) ow' σ' H' g' ∧ loopD f s (ds.drop i) g' = some out
    refine ⟨fun i m σ' H' => m = ds.length - i ∧ i ≤ ds.length ∧ Pv i σ' H', ⟨ds.length, rfl, Nat.zero_le _, ⟨ow, g, (R.grow e1).morePins hps, h⟩⟩, ?_⟩
    rintro i m σ' H' ⟨rfl, hi, ⟨ow', g', R', hl⟩⟩
    have kps : ∀ p ∈ ps, Rp K (OO Oc ow') H' p.1 p.2 := fun p hp => R'.pin p (List.mem_append_left _ hp)
    by_cases hlt : i < ds.length
    · refine .inr ⟨hw.go _ i H' hlt kps trivial, Pv (i + 1), fun σ2 H2 p => ⟨ds.length - (i + 1), by omega, rfl, hlt, p⟩, fun x H2 y => ?_⟩
      have hd : ds[i]? = some ds[i] := List.getElem?_eq_getElem hlt
      obtain ⟨e2, rx⟩ := hw.yld _ i H' x H2 ds[i] R'.oo kps y hd
      rw [show ds.drop i = ds[i] :: ds.drop (i + 1) from List.drop_eq_getElem_cons hlt] at hl
      unfold loopD at hl
      cases e3 : f ds[i] g' with
      | none => rw [e3] at hl; cases hl
      | some g1 =>
        rw [e3] at hl
        simp only [Option.bind_some] at hl
        cases e4 : s g1 with
        | none => rw [e4] at hl; cases hl
        | some o =>
          rw [e4] at hl
          simp only [Option.bind_some] at hl
          refine hg ds[i] g' g1 e3 H0 Oc _ ow' σ' H2 x (R'.grow e2) rx _ fun ow2 σ2 _ R2 => ?_
          refine hs g1 o e4 H0 Oc _ ow2 σ2 H2 R2 _ ?_
          cases o with
          | nx g2 => exact fun ow3 σ3 H3 R3 => ⟨ow3, g2, R3, hl⟩
          | ct g2 => exact fun ow3 σ3 H3 R3 => ⟨ow3, g2, R3, hl⟩
          | bk g2 =>
            cases hl
            exact fun ow3 σ3 H3 R3 => P ow3 σ3 H3 R3.lessPins
          | rt w =>
            cases hl
            cases w with
            | v d => exact P
            | o d => exact P
    · have e : i = ds.length := by omega
      subst e
      refine .inl ⟨hw.stop _ H' kps trivial, ?_⟩
      rw [List.drop_length] at hl
      cases hl
      exact P ow' σ' H' R'.lessPins
end

/-! ### a def's promise -/
def Wd.d : Wd → D
  | .v d => d
  | .o d => d
def Ret (K : PySem.W.Frag) (H0 : Hp) (Oc : Addr → Prop) (Q : VK) : Wd → Prop
  | .v d => ∀ v H, Ex H0 H → Rp K Oc H v d → Q v H
  | .o d => ∀ p H, Ex H0 H → H0 p = none → RpO K (fun a => Oc a ∨ a = p) H p d → Q (.ref p) H
abbrev PF : Type := List D → Option Wd
def spG (K : PySem.W.Frag) (n : Nat) (gf : PF) : Sp := fun vs H Q _ => ∃ (Oc : Addr → Prop) (ds : List D) (w : Wd), vs.length = n ∧ (∀ a, Oc a → Lv H a) ∧ RpA K Oc H vs ds ∧ gf ds = some w ∧ Ret K H Oc Q w
def runG (m : Nat) (t : SF) : PF := fun ds => match t (ds.map (fun d => some (.v d)) ++ List.replicate m none) with
  | some (.rt w) => some w
  | some (.nx _) => some (.v .non)
  | _ => none
theorem reps_start {K : PySem.W.Frag} {H : Hp} {Oc : Addr → Prop} (oc : ∀ a, Oc a → Lv H a) (N : List Str) {vs : List V} {ds : List D} (r : RpA K Oc H vs ds) {m : Nat} (hm : N.length = vs.length + m) :
    Reps K H Oc ⟨[], none⟩ noOw (L2.start N vs) H (ds.map (fun d => some (.v d)) ++ List.replicate m none) where
  len := by
    unfold L2.start
    simp only [List.length_append, List.length_map, List.length_replicate]
    have := r.len
    omega
  ex := Evl.Ex.refl H
  oc := oc
  fr := fun i a h => by cases h
  inj := fun i j a h => by cases h
  is := fun i a h => by cases h
  val := fun i d h => by
    have k : Kp Oc H (OO Oc noOw) H := fun a o n e => ⟨fun z => z.elim n fun ⟨i, z⟩ => (by cases z), e⟩
    have hi : i < ds.length := by
      by_cases hi : i < ds.length
      · exact hi
      · rw [List.getElem?_append_right (by simp; omega)] at h
        rw [List.getElem?_replicate] at h
        split at h <;> cases h
    rw [List.getElem?_append_left (by simp; exact hi), List.getElem?_map] at h
    cases e : ds[i]? with
    | none => rw [e] at h; cases h
    | some d' =>
      rw [e] at h
      cases h
      obtain ⟨v, h1, h2⟩ := r.get e
      refine ⟨v, ?_, h2.kp k⟩
      unfold L2.start
      have : i < vs.length := by rw [r.len]; exact hi
      rw [List.getElem?_append_left (by simp; exact this), List.getElem?_map, h1]
      rfl
  own := fun i d h => by
    have hi : ¬ i < ds.length := fun hi => by
      rw [List.getElem?_append_left (by simp; exact hi), List.getElem?_map] at h
      cases e : ds[i]? with
      | none => rw [e] at h; cases h
      | some d' => rw [e] at h; cases h
    rw [List.getElem?_append_right (by simp; omega)] at h
    rw [List.getElem?_replicate] at h
    split at h <;> cases h
  pin := fun p h => by cases h
  slf := fun x h => by cases h
section
variable {P : Program} {w : World} {K : PySem.W.Frag} {mg : Str → Option Value} {base : Heap}
theorem fnG {x qual : Str} {st : Stmt} {f : Addr} {fd : FuncData} {N ps : List Str} {k n m : Nat} {t : SF} (F : Fun K x qual st f fd) (S : FnScope N ps (defScope st)) (hn : n = ps.length) (hm : N.length = n + m)
    (hb : ∀ (cdv : Value) (A : Around) (outer : List Env) (s : Shared) (H : Hp) (E : XK), Room k (A.deeper (envOfC qual (defScope st) s.heap.objs.size f cdv)) → ∃ ts, PSs (cxOf CX0 P w K mg base N qual (defScope st) f cdv A outer s H E).nox (defBody st) ts ∧ SR K ts t) : FnOk P w K mg base CX0 (k + 1) f fd ps (spG K n (runG m t)) := by
  subst hn
  refine F.ok S (fun vs H Q E h => ?_) (fun cdv A outer s H vs Q E hr h => ?_)
  · obtain ⟨_, _, _, h, _⟩ := h
    exact h
  · obtain ⟨Oc, ds, wd, hl, oc, r, hg, q⟩ := h
    obtain ⟨ts, hts, hs⟩ := hb cdv A outer s H E hr
    refine ⟨ts, hts, ?_⟩
    have R := reps_start oc N r (m := m) (by rw [hl]; exact hm)
    unfold runG at hg
    split at hg
    · rename_i w' e
      cases hg
      refine hs _ _ e H Oc _ noOw _ H R _ ?_
      cases wd with
      | v d => exact q
      | o d => exact q
    · rename_i g e
      cases hg
      exact hs _ _ e H Oc _ noOw _ H R _ fun ow σ H' R' => q .non H' R'.ex .non
    · cases hg
theorem FnOk.gf {f : Addr} {fd : FuncData} {ps : List Str} {k n : Nat} {gf gf' : PF} (F : FnOk P w K mg base CX0 k f fd ps (spG K n gf)) (h : ∀ ds w, gf' ds = some w → gf ds = some w) : FnOk P w K mg base CX0 k f fd ps (spG K n gf') :=
  F.imp fun vs H Q E ⟨Oc, ds, w, h1, h2, h3, h4, h5⟩ => ⟨Oc, ds, w, h1, h2, h3, h ds w h4, h5⟩
end
section
variable {K : PySem.W.Frag}
def dCall (n : Nat) (gf : PF) (a : DAF) : DF := fun g => (a g).bind fun ds => if ds.length = n then (gf ds).map Wd.d else none
theorem RpO.toRp {O : Addr → Prop} {H : Hp} {p : Addr} {d : D} (n : ¬ O p) (r : RpO K (fun a => O a ∨ a = p) H p d) : Rp K O H (.ref p) d := r.rp (fun b o m q => ⟨fun z => m (.inl z), q⟩) n
theorem er_call {n : Nat} {gf : PF} {E : XK} {ta : TA} {a : DAF} (ha : AR K ta a) : ER K (tCall (spG K n gf) [] E ta) (dCall n gf a) := fun g d h H0 Oc pins ow σ H R Q q => by
  unfold dCall at h
  cases ea : a g with
  | none => rw [ea] at h; cases h
  | some ds =>
    rw [ea] at h
    simp only [Option.bind_some] at h
    split at h
    · rename_i hn
      cases ew : gf ds with
      | none => rw [ew] at h; cases h
      | some wd =>
        rw [ew] at h
        cases h
        refine ha g ds ea H0 Oc pins ow σ H R _ fun vs H1 e1 r1 => ?_
        refine ⟨OO Oc ow, ds, wd, by rw [List.append_nil, r1.len]; exact hn, (R.grow e1).oo, by rw [List.append_nil]; exact r1, ew, ?_⟩
        cases wd with
        | v d => exact fun v H2 e2 r2 => q v H2 (e1.trans e2) r2
        | o d => exact fun p H2 e2 hp r2 => q _ H2 (e1.trans e2) (r2.toRp ((R.grow e1).new hp))
    · cases h
def dCallO (n : Nat) (gf : PF) (a : DAF) : DF := fun g => (a g).bind fun ds => if ds.length = n then (match gf ds with
  | some (.o d) => some d
  | _ => none) else none
theorem eo_call {n : Nat} {gf : PF} {E : XK} {ta : TA} {a : DAF} (ha : AR K ta a) : EO K (tCall (spG K n gf) [] E ta) (dCallO n gf a) := fun g d h H0 Oc pins ow σ H R Q q => by
  unfold dCallO at h
  cases ea : a g with
  | none => rw [ea] at h; cases h
  | some ds =>
    rw [ea] at h
    simp only [Option.bind_some] at h
    split at h
    · rename_i hn
      split at h
      · rename_i d' ew
        cases h
        refine ha g ds ea H0 Oc pins ow σ H R _ fun vs H1 e1 r1 => ?_
        exact ⟨OO Oc ow, ds, .o d, by rw [List.append_nil, r1.len]; exact hn, (R.grow e1).oo, by rw [List.append_nil]; exact r1, ew, fun p H2 e2 hp r2 => q p H2 (e1.trans e2) (Evl.fresh_back e1 hp) r2⟩
      · cases h
    · cases h
/-! ### __init__ and C(..) -/
def dMake (C : Addr) (n : Nat) (gf : List D → Option (List (Str × D))) (a : DAF) : DF := fun g => (a g).bind fun ds => if ds.length = n then (gf ds).map (.ins C) else none
end
end Zk
end

section
set_option Elab.async false
set_option linter.all false
set_option maxRecDepth 100000
set_option autoImplicit false
set_option maxHeartbeats 2000000
/-! len(set(ints)); names of the built-ins; odds. -/
namespace Zk
open PySem L2 PyProof.Rows
open Evl (Ex)

/-! ### how many different ones -/
def dd : List Int → List Int
  | [] => []
  | x :: xs => if x ∈ xs then dd xs else x :: dd xs
section
variable {K : PySem.W.Frag}
def negD : D → Option D
  | .int i => some (.int (-i))
  | _ => none
theorem ru_neg : RU K (rU fun i => .int (-i)) negD := fun x d h O H v o rx Q q => by
  unfold negD at h
  split at h
  · cases h; cases rx
    exact ⟨_, rfl, rr_fin q (.int _)⟩
  · cases h
/-- a flat value may look at what is owned -/
def peekF (a : DF) : DF := fun g => match a (frzAll g) with
  | some d => if d.flat = true then some d else none
  | none => none
theorem er_peekF {te : TE} {a : DF} (ha : ER K te a) : ER K te (peekF a) := fun g d h H0 Oc pins ow σ H R Q q => by
  unfold peekF at h
  split at h
  · rename_i d' e
    split at h
    · rename_i f
      cases h
      exact ha _ d e H0 Oc _ noOw σ H R.frzAll Q fun v H' e' r => q v H' e' (r.flat f)
    · cases h
  · cases h
end
/-! ### the built-ins by name -/
theorem bt_len : bootBuiltins "len" = some (.builtin "len") := by decide +kernel
theorem bt_abs : bootBuiltins "abs" = some (.builtin "abs") := by decide +kernel
theorem bt_min : bootBuiltins "min" = some (.builtin "min") := by decide +kernel
theorem bt_max : bootBuiltins "max" = some (.builtin "max") := by decide +kernel
theorem bt_all : bootBuiltins "all" = some (.builtin "all") := by decide +kernel
theorem bt_sorted : bootBuiltins "sorted" = some (.builtin "sorted") := by decide +kernel
theorem bt_isinstance : bootBuiltins "isinstance" = some (.builtin "isinstance") := by decide +kernel
theorem bt_int : bootBuiltins "int" = some (.type "int") := by decide +kernel
theorem bt_bool : bootBuiltins "bool" = some (.type "bool") := by decide +kernel
theorem bt_str : bootBuiltins "str" = some (.type "str") := by decide +kernel
theorem bt_list : bootBuiltins "list" = some (.type "list") := by decide +kernel
theorem bt_tuple : bootBuiltins "tuple" = some (.type "tuple") := by decide +kernel
end Zk
end

section
set_option Elab.async false
set_option linter.all false
set_option maxRecDepth 100000
set_option autoImplicit false
set_option maxHeartbeats 2000000
/-! Comprehensions of two clauses. -/
namespace Zk
open PySem L2 PyProof.Rows
open Evl (Ex)

/-- all but what stands at Dl is kept -/
def Tch (Dl : Addr) (H H2 : Hp) : Prop := ∀ a o, a ≠ Dl → H a = some o → H2 a = some o
theorem Tch.refl (Dl : Addr) (H : Hp) : Tch Dl H H := fun _ _ _ h => h
theorem Tch.trans {Dl : Addr} {H H1 H2 : Hp} (a : Tch Dl H H1) (b : Tch Dl H1 H2) : Tch Dl H H2 := fun c o n h => b c o n (a c o n h)
theorem Tch.ex {Dl : Addr} {H H1 : Hp} (e : Ex H H1) : Tch Dl H H1 := fun a o _ h => e a o h
theorem Tch.upd {Dl : Addr} {H : Hp} {o : HO} : Tch Dl H (L2.upd H Dl o) := fun a u n h => by rw [upd_ne n]; exact h
section
variable {K : PySem.W.Frag}
theorem Tch.kp {Dl : Addr} {O : Addr → Prop} {H H2 : Hp} (e : Tch Dl H H2) (hD : O Dl) : Kp O H O H2 := fun a o n h => ⟨n, e a o (fun z => n (z ▸ hD)) h⟩
open Classical in
theorem Reps.touch {B H H2 : Hp} {Oc : Addr → Prop} {pins : Pn} {ow : OW} {σ : L2.St} {g : Gm} {Dl : Addr} (R : Reps K B Oc pins ow σ H g) (hD : Oc Dl) (e : Tch Dl H H2) (h2 : Lv H2 Dl) :
    ∃ B', Reps K B' Oc pins ow σ H2 g := by
  have k : Kp (OO Oc ow) H (OO Oc ow) H2 := e.kp (.inl hD)
  have nD : ∀ i a, ow i = some a → a ≠ Dl := fun i a h z => (R.oc Dl hD).1 (by rw [← z]; exact (R.fr i a h).1)
  have there : ∀ a, a ≠ Dl → Lv H a → Lv H2 a := fun a n h => by
    cases y : H a with
    | none => exact absurd y h.1
    | some o =>
      have q := e a o n y
      exact ⟨fun z => (by rw [q] at z; cases z), fun xs z => (by rw [q] at z; exact h.2 xs (y.trans z))⟩
  refine ⟨fun b => if ∃ i, ow i = some b then none else H2 b, ?_⟩
  exact {
    len := R.len
    ex := fun a o h => by
      have h : (if ∃ i, ow i = some a then none else H2 a) = some o := h
      split at h
      · cases h
      · exact h
    oc := fun a h => by
      have nw : ¬ ∃ i, ow i = some a := fun ⟨i, z⟩ => (R.oc a h).1 (R.fr i a z).1
      show (if ∃ i, ow i = some a then none else H2 a) ≠ none ∧ ∀ xs, (if ∃ i, ow i = some a then none else H2 a) ≠ some (.tup xs)
      rw [if_neg nw]
      by_cases q : a = Dl
      · rw [q]; exact h2
      · exact there a q (R.oo a (.inl h))
    fr := fun i a h => ⟨if_pos ⟨i, h⟩, there a (nD i a h) (R.fr i a h).2⟩
    inj := R.inj
    is := R.is
    val := fun i d h => let ⟨v, h1, h2⟩ := R.val i d h; ⟨v, h1, h2.kp k⟩
    own := fun i d h => let ⟨a, h1, h2, h3⟩ := R.own i d h; ⟨a, h1, h2, h3.kp k (by
      cases y : H a with
      | none => exact absurd y h3.there
      | some o => exact e a o (nD i a h1) y)⟩
    pin := fun p h => (R.pin p h).kp k
    slf := R.slf }
end
end Zk
end

section
set_option Elab.async false
set_option linter.all false
set_option maxRecDepth 100000
set_option autoImplicit false
set_option maxHeartbeats 2000000
/-! in and count over items of any shape. -/
namespace Zk
open PySem L2 PyProof.Rows
open Evl (Ex)
/-- small data -/
def small (p : PyData) : Bool := p.canLay0 && decide (p.depth ≤ 60)
section
variable {X : Cx}
def rInP (K : PySem.W.Frag) (neg : Bool) : R2 := fun x y H Q => ∃ d ds, Dp K H x d ∧ (Dp K H y (.list ds) ∨ Dp K H y (.tuple ds)) ∧ PyData.canLayAll0 ds = true ∧ small d = true ∧ Q (.bl (if neg then !(ds.any fun z => PyData.eqv z d) else ds.any fun z => PyData.eqv z d)) H
theorem small_room {A : Around} {xs : List PyData} {d : PyData} (h : small d = true) (hu : A.units + 64 < cLine) : A.units + 1 + min (PyData.depthAll xs) d.depth < cLine := by
  unfold small at h
  rw [Bool.and_eq_true] at h
  have h1 := of_decide_eq_true h.2
  have h2 : min (PyData.depthAll xs) d.depth ≤ d.depth := Nat.min_le_right _ _
  omega
theorem small_lay {d : PyData} (h : small d = true) : d.canLay0 = true := by
  unfold small at h
  rw [Bool.and_eq_true] at h
  exact h.1
theorem op_inP (hu : X.A.units + 64 < cLine) : OpR X (compareOp .In) (rInP X.K false) := by
  intro pins s σ H x y v u Q I rx ry h
  obtain ⟨d, ds, hd, hl, s1, sd, q⟩ := h
  obtain ⟨as, r1⟩ := Dp.reads I d x v hd rx
  rcases hl with hl | hl
  · obtain ⟨bs, r2⟩ := Dp.reads I (.list ds) y u hl ry
    exact SeqAt.in_list_reads r2 r1 s1 (small_lay sd) (small_room sd hu) ⟨.bl _, H, I, rfl, q⟩
  · obtain ⟨bs, r2⟩ := Dp.reads I (.tuple ds) y u hl ry
    exact SeqAt.in_tuple_reads r2 r1 s1 (small_lay sd) (small_room sd hu) ⟨.bl _, H, I, rfl, q⟩
theorem op_ninP (hu : X.A.units + 64 < cLine) : OpR X (compareOp .NotIn) (rInP X.K true) := by
  intro pins s σ H x y v u Q I rx ry h
  obtain ⟨d, ds, hd, hl, s1, sd, q⟩ := h
  obtain ⟨as, r1⟩ := Dp.reads I d x v hd rx
  rcases hl with hl | hl
  · obtain ⟨bs, r2⟩ := Dp.reads I (.list ds) y u hl ry
    exact SeqAt.notIn_list_reads r2 r1 s1 (small_lay sd) (small_room sd hu) ⟨.bl _, H, I, rfl, q⟩
  · obtain ⟨bs, r2⟩ := Dp.reads I (.tuple ds) y u hl ry
    exact SeqAt.notIn_tuple_reads r2 r1 s1 (small_lay sd) (small_room sd hu) ⟨.bl _, H, I, rfl, q⟩
end
def inPB (x : D) : D → Option Bool
  | .lst ds => (toP x).bind fun d => (toPs ds).bind fun ps => if small d && PyData.canLayAll0 ps then some (ps.any fun z => PyData.eqv z d) else none
  | .tup ds => (toP x).bind fun d => (toPs ds).bind fun ps => if small d && PyData.canLayAll0 ps then some (ps.any fun z => PyData.eqv z d) else none
  | _ => none
def inPD (x y : D) : Option D := (inPB x y).map .bl
def ninPD (x y : D) : Option D := (inPB x y).map fun b => .bl (!b)
section
variable {K : PySem.W.Frag}
theorem inPB_get {x : D} {ds : List D} {b : Bool} (h : ((toP x).bind fun d => (toPs ds).bind fun ps => if small d && PyData.canLayAll0 ps then some (ps.any fun z => PyData.eqv z d) else none) = some b) :
    ∃ d ps, toP x = some d ∧ toPs ds = some ps ∧ small d = true ∧ PyData.canLayAll0 ps = true ∧ b = ps.any fun z => PyData.eqv z d := by
  cases h1 : toP x with
  | none => rw [h1] at h; cases h
  | some d =>
    rw [h1, Option.bind_some] at h
    cases h2 : toPs ds with
    | none => rw [h2] at h; cases h
    | some ps =>
      rw [h2, Option.bind_some] at h
      split at h
      · rename_i c
        rw [Bool.and_eq_true] at c
        cases h
        exact ⟨d, ps, rfl, rfl, c.1, c.2, rfl⟩
      · cases h
theorem inPB_rp {O : Addr → Prop} {H : Hp} {x y : D} {v u : V} {b : Bool} (h : inPB x y = some b) (rx : Rp K O H v x) (ry : Rp K O H u y) :
    ∃ d ps, Dp K H v d ∧ (Dp K H u (.list ps) ∨ Dp K H u (.tuple ps)) ∧ PyData.canLayAll0 ps = true ∧ small d = true ∧ b = ps.any fun z => PyData.eqv z d := by
  unfold inPB at h
  split at h
  · obtain ⟨d, ps, h1, h2, h3, h4, h5⟩ := inPB_get h
    exact ⟨d, ps, dp_of rx h1, .inl (dp_of ry (by unfold toP; rw [h2]; rfl)), h4, h3, h5⟩
  · obtain ⟨d, ps, h1, h2, h3, h4, h5⟩ := inPB_get h
    exact ⟨d, ps, dp_of rx h1, .inr (dp_of ry (by unfold toP; rw [h2]; rfl)), h4, h3, h5⟩
  · cases h
theorem rr_inP : RR K (rInP K false) inPD := fun x y d h O H v u o rx ry Q q => by
  unfold inPD at h
  cases e : inPB x y with
  | none => rw [e] at h; cases h
  | some b =>
    rw [e] at h
    cases h
    obtain ⟨p, ps, h1, h2, h3, h4, h5⟩ := inPB_rp e rx ry
    refine ⟨p, ps, h1, h2, h3, h4, ?_⟩
    rw [if_neg Bool.false_ne_true, ← h5]
    exact rr_fin q (.bl _)
theorem rr_ninP : RR K (rInP K true) ninPD := fun x y d h O H v u o rx ry Q q => by
  unfold ninPD at h
  cases e : inPB x y with
  | none => rw [e] at h; cases h
  | some b =>
    rw [e] at h
    cases h
    obtain ⟨p, ps, h1, h2, h3, h4, h5⟩ := inPB_rp e rx ry
    refine ⟨p, ps, h1, h2, h3, h4, ?_⟩
    rw [if_pos rfl, ← h5]
    exact rr_fin q (.bl _)
def countD (y x : D) : Option D := match y with
  | .lst ds => (toP x).bind fun d => (toPs ds).bind fun ps => if small d && PyData.canLayAll0 ps then some (.int ((ps.countP fun z => PyData.eqv z d : Nat) : Int)) else none
  | _ => none
/-- a new list of flat items may be made of what is owned -/
def peekO (a : DF) : DF := fun g => match a (frzAll g) with
  | some (.lst ds) => if ds.all D.flat then some (.lst ds) else none
  | _ => none
end
end Zk
end

section
set_option Elab.async false
set_option linter.all false
set_option maxRecDepth 100000
set_option autoImplicit false
set_option maxHeartbeats 2000000
/-! Dicts as data. -/
namespace Zk
open PySem L2
open Evl (Ex)
/-! ### keys -/
variable {K : PySem.W.Frag}
/-! ### look-up, store -/
def getK (kvs : List (List Key × D)) (k : List Key) : Option D := (kvs.find? fun kv => decide (kv.1 = k)).map (·.2)
def setK (kvs : List (List Key × D)) (k : List Key) (d : D) : List (List Key × D) :=
  if (kvs.any fun kv => decide (kv.1 = k)) = true then kvs.map (fun kv => if kv.1 = k then (kv.1, d) else kv) else kvs ++ [(k, d)]
/-- a dict's pairs and their data -/
def RpD (K : PySem.W.Frag) (O : Addr → Prop) (H : Hp) (xs : List (List Key × V)) (kvs : List (List Key × D)) : Prop := xs.map (·.1) = kvs.map (·.1) ∧ RpA K O H (xs.map (·.2)) (kvs.map (·.2))
theorem RpD.nil {O : Addr → Prop} {H : Hp} : RpD K O H [] [] := ⟨rfl, .nil⟩
theorem RpD.inv {O : Addr → Prop} {H : Hp} {x : List Key × V} {xs : List (List Key × V)} {kvs : List (List Key × D)} (r : RpD K O H (x :: xs) kvs) : ∃ d kvs', kvs = (x.1, d) :: kvs' ∧ Rp K O H x.2 d ∧ RpD K O H xs kvs' := by
  obtain ⟨e, r⟩ := r
  cases kvs with
  | nil => cases e
  | cons kv kvs =>
    rw [List.map_cons, List.map_cons] at e r
    have e1 := (List.cons.inj e).1
    cases r with
    | cons a b => exact ⟨kv.2, kvs, by rw [e1], a, (List.cons.inj e).2, b⟩
theorem RpD.get {O : Addr → Prop} {H : Hp} : ∀ {xs : List (List Key × V)} {kvs : List (List Key × D)} (k : List Key), RpD K O H xs kvs →
    (getK kvs k = none ∧ valV xs k = none) ∨ ∃ d v, getK kvs k = some d ∧ valV xs k = some v ∧ Rp K O H v d
  | [], kvs, k, r => by
    obtain ⟨e, _⟩ := r
    cases kvs with
    | nil => exact .inl ⟨rfl, rfl⟩
    | cons a b => cases e
  | x :: xs, kvs, k, r => by
    obtain ⟨d, kvs', rfl, h1, h2⟩ := r.inv
    by_cases hk : x.1 = k
    · refine .inr ⟨d, x.2, ?_, valV_pos hk, h1⟩
      unfold getK
      rw [List.find?_cons, decide_eq_true hk]
      rfl
    · have ih := RpD.get k h2
      rw [valV_neg hk]
      have e : getK ((x.1, d) :: kvs') k = getK kvs' k := by
        unfold getK
        rw [List.find?_cons, decide_eq_false hk]
      rw [e]
      exact ih
theorem RpD.set {O : Addr → Prop} {H : Hp} {xs : List (List Key × V)} {kvs : List (List Key × D)} (k : List Key) {v : V} {d : D} (r : RpD K O H xs kvs) (hv : Rp K O H v d) : RpD K O H (putK xs k v) (setK kvs k d) := by
  have ha : (xs.any fun kv => decide (kv.1 = k)) = (kvs.any fun kv => decide (kv.1 = k)) := by
    have e1 : ∀ l : List (List Key × V), (l.any fun kv => decide (kv.1 = k)) = ((l.map (·.1)).any fun z => decide (z = k)) := fun l => by rw [List.any_map]; rfl
    have e2 : ∀ l : List (List Key × D), (l.any fun kv => decide (kv.1 = k)) = ((l.map (·.1)).any fun z => decide (z = k)) := fun l => by rw [List.any_map]; rfl
    rw [e1, e2, r.1]
  unfold putK setK
  rw [ha]
  split
  · have go : ∀ (xs : List (List Key × V)) (kvs : List (List Key × D)), RpD K O H xs kvs → RpD K O H (xs.map fun kv => if kv.1 = k then (kv.1, v) else kv) (kvs.map fun kv => if kv.1 = k then (kv.1, d) else kv) := by
      intro xs
      induction xs with
      | nil =>
        intro kvs r
        cases kvs with
        | nil => exact .nil
        | cons a b => cases r.1
      | cons x xs ih =>
        intro kvs r
        obtain ⟨d', kvs', rfl, h1, h2⟩ := r.inv
        have ih := ih kvs' h2
        rw [List.map_cons, List.map_cons]
        by_cases hk : x.1 = k
        · rw [if_pos hk, if_pos hk]
          exact ⟨by rw [List.map_cons, List.map_cons, ih.1], .cons hv ih.2⟩
        · rw [if_neg hk, if_neg hk]
          exact ⟨by rw [List.map_cons, List.map_cons, ih.1], .cons h1 ih.2⟩
    exact go xs kvs r
  · exact ⟨by rw [List.map_append, List.map_append, r.1]; rfl, by rw [List.map_append, List.map_append]; exact r.2.app (.one hv)⟩
theorem RpD.kp {O O' : Addr → Prop} {H H' : Hp} (k : Kp O H O' H') {xs : List (List Key × V)} {kvs : List (List Key × D)} (r : RpD K O H xs kvs) : RpD K O' H' xs kvs := ⟨r.1, r.2.kp k⟩
theorem RpD.len {O : Addr → Prop} {H : Hp} {xs : List (List Key × V)} {kvs : List (List Key × D)} (r : RpD K O H xs kvs) : xs.length = kvs.length := by
  have := congrArg List.length r.1
  rw [List.length_map, List.length_map] at this
  exact this
/-! ### a dict in a slot, owned or not -/
section
variable {tk tx tv : TE} {k x a : DF} {i : Nat}
end
end Zk
end

section
set_option Elab.async false
set_option linter.all false
set_option maxRecDepth 100000
set_option autoImplicit false
set_option maxHeartbeats 2000000
/-! A dict of lists that are filled in their places. -/
namespace Zk
open PySem L2
open Evl (Ex)
variable {K : PySem.W.Frag}
abbrev SeatL : Type := List (List Key × List Int)
def addSeat (kvs : SeatL) (k : List Key) (i : Int) : SeatL := if (kvs.any fun kv => decide (kv.1 = k)) = true then kvs.map (fun kv => if kv.1 = k then (kv.1, kv.2 ++ [i]) else kv) else kvs ++ [(k, [i])]
/-- the dict at d, its lists new and each by itself -/
structure Dp (H0 H : Hp) (d : Addr) (xs : List (List Key × V)) (kvs : SeatL) : Prop where
  keys : xs.map (·.1) = kvs.map (·.1)
  nod : (kvs.map (·.1)).Nodup
  val : ∀ (j : Nat) (k : List Key) (es : List Int), kvs[j]? = some (k, es) → ∃ b, xs[j]? = some (k, .ref b) ∧ H0 b = none ∧ b ≠ d ∧ H b = some (.lst (es.map V.int))
  inj : ∀ (j l : Nat) (k k' : List Key) (b : Addr), xs[j]? = some (k, .ref b) → xs[l]? = some (k', .ref b) → j = l
theorem Dp.len {H0 H : Hp} {d : Addr} {xs : List (List Key × V)} {kvs : SeatL} (p : Dp H0 H d xs kvs) : xs.length = kvs.length := by
  have := congrArg List.length p.keys
  rw [List.length_map, List.length_map] at this
  exact this
theorem Dp.ex {H0 H H' : Hp} {d : Addr} {xs : List (List Key × V)} {kvs : SeatL} (p : Dp H0 H d xs kvs) (e : ∀ b o, H b = some o → b ≠ d → H' b = some o) : Dp H0 H' d xs kvs :=
  ⟨p.keys, p.nod, fun j k es h => let ⟨b, h1, h2, h3, h4⟩ := p.val j k es h; ⟨b, h1, h2, h3, e b _ h4 h3⟩, p.inj⟩
theorem any_key {α : Type} (l : List (List Key × α)) (k : List Key) : (l.any fun kv => decide (kv.1 = k)) = true ↔ k ∈ l.map (fun kv => kv.1) := by
  rw [List.any_eq_true, List.mem_map]
  exact ⟨fun ⟨x, h1, h2⟩ => ⟨x, h1, of_decide_eq_true h2⟩, fun ⟨x, h1, h2⟩ => ⟨x, h1, decide_eq_true h2⟩⟩
/-- one more item in the list of a key that is there -/
theorem Dp.more {H0 H : Hp} {d b : Addr} {xs : List (List Key × V)} {kvs : SeatL} (p : Dp H0 H d xs kvs) {k : List Key} {j : Nat} (hj : xs[j]? = some (k, .ref b)) (i : Int) :
    ∃ es, kvs[j]? = some (k, es) ∧ H b = some (.lst (es.map V.int)) ∧ Dp H0 (upd H b (.lst (es.map V.int ++ [.int i]))) d xs (addSeat kvs k i) := by
  have hk : (kvs.map (·.1))[j]? = some k := by rw [← p.keys, List.getElem?_map, hj]; rfl
  obtain ⟨es, e⟩ : ∃ es, kvs[j]? = some (k, es) := by
    rw [List.getElem?_map] at hk
    cases e : kvs[j]? with
    | none => rw [e] at hk; cases hk
    | some kv =>
      rw [e] at hk
      exact ⟨kv.2, by rw [← Option.some.inj hk]⟩
  · obtain ⟨b', h1, h2, h3, h4⟩ := p.val j k es e
    rw [hj] at h1
    cases h1
    refine ⟨es, e, h4, ?_⟩
    have hin : k ∈ kvs.map (·.1) := List.mem_map.mpr ⟨(k, es), List.mem_of_getElem? e, rfl⟩
    have ea : addSeat kvs k i = kvs.map fun kv => if kv.1 = k then (kv.1, kv.2 ++ [i]) else kv := by
      unfold addSeat
      rw [if_pos ((any_key kvs k).mpr hin)]
    have ek : (kvs.map fun kv => if kv.1 = k then (kv.1, kv.2 ++ [i]) else kv).map (·.1) = kvs.map (·.1) := by
      rw [List.map_map]
      refine List.map_congr_left fun kv _ => ?_
      show (if kv.1 = k then (kv.1, kv.2 ++ [i]) else kv).1 = kv.1
      split <;> rfl
    rw [ea]
    refine ⟨by rw [ek]; exact p.keys, by rw [ek]; exact p.nod, fun l k' es' hl => ?_, p.inj⟩
    rw [List.getElem?_map] at hl
    cases e2 : kvs[l]? with
    | none => rw [e2] at hl; cases hl
    | some kv =>
      rw [e2] at hl
      obtain ⟨k2, es2⟩ := kv
      obtain ⟨b2, g1, g2, g3, g4⟩ := p.val l k2 es2 e2
      by_cases hkk : k2 = k
      · have hl2 : (if k2 = k then (k2, es2 ++ [i]) else (k2, es2)) = (k', es') := Option.some.inj hl
        rw [if_pos hkk] at hl2
        cases hl2
        rw [hkk] at e2 g1 ⊢
        have hjl : j = l := by
          have a1 : (kvs.map (·.1))[j]? = some k := by rw [List.getElem?_map, e]; rfl
          have a2 : (kvs.map (·.1))[l]? = some k := by rw [List.getElem?_map, e2]; rfl
          exact (List.getElem?_inj (List.getElem?_eq_some_iff.mp a1).1 p.nod).mp (a1.trans a2.symm)
        subst hjl
        rw [hj] at g1
        cases g1
        rw [e] at e2
        cases e2
        exact ⟨b, hj, g2, g3, by rw [upd_same, List.map_append]; rfl⟩
      · have hl2 : (if k2 = k then (k2, es2 ++ [i]) else (k2, es2)) = (k', es') := Option.some.inj hl
        rw [if_neg hkk] at hl2
        cases hl2
        have nb : b2 ≠ b := fun z => by
          subst z
          have := p.inj j l _ _ _ hj g1
          subst this
          rw [e] at e2
          cases e2
          exact hkk rfl
        exact ⟨b2, g1, g2, g3, by rw [upd_ne nb]; exact g4⟩
/-- a new key -/
theorem Dp.new {H0 H : Hp} {d l : Addr} {xs : List (List Key × V)} {kvs : SeatL} (p : Dp H0 H d xs kvs) {k : List Key} (hk : k ∉ xs.map (·.1)) (hl0 : H0 l = none) (hld : l ≠ d) (hl : H l = none) (i : Int) {H' : Hp} (e : ∀ b o, H b = some o → b ≠ d → H' b = some o) (h' : H' l = some (.lst [.int i])) :
    Dp H0 H' d (xs ++ [(k, .ref l)]) (addSeat kvs k i) := by
  have hk2 : k ∉ kvs.map (·.1) := by rw [← p.keys]; exact hk
  have ea : addSeat kvs k i = kvs ++ [(k, [i])] := by
    unfold addSeat
    rw [if_neg fun z => hk2 ((any_key kvs k).mp z)]
  have hlen := p.len
  have old : ∀ (j : Nat) (k' : List Key) (b : Addr), xs[j]? = some (k', .ref b) → b ≠ l := fun j k' b h z => by
    have hj : j < kvs.length := by rw [← hlen]; exact (List.getElem?_eq_some_iff.mp h).1
    obtain ⟨b', h1, _, _, h4⟩ := p.val j _ _ (List.getElem?_eq_getElem hj)
    rw [h] at h1
    cases h1
    rw [z, hl] at h4
    cases h4
  rw [ea]
  refine ⟨by rw [List.map_append, List.map_append, p.keys]; rfl, ?_, fun j k' es h => ?_, fun j j' k1 k2 b h1 h2 => ?_⟩
  · rw [List.map_append, List.nodup_append]
    exact ⟨p.nod, by simp, fun a ha b hb z => hk2 (by simp at hb; rw [← hb, ← z]; exact ha)⟩
  · by_cases hj : j < kvs.length
    · rw [List.getElem?_append_left hj] at h
      obtain ⟨b, h1, h2, h3, h4⟩ := p.val j k' es h
      exact ⟨b, by rw [List.getElem?_append_left (by omega)]; exact h1, h2, h3, e b _ h4 h3⟩
    · rw [List.getElem?_append_right (by omega)] at h
      have h0 : j - kvs.length = 0 := by
        by_cases h0 : j - kvs.length = 0
        · exact h0
        · rw [List.getElem?_eq_none (by simp; omega)] at h; cases h
      rw [h0] at h
      cases h
      exact ⟨l, by rw [List.getElem?_append_right (by omega), hlen, h0]; rfl, hl0, hld, h'⟩
  · have lem : ∀ (j : Nat) (k1 : List Key), (xs ++ [(k, V.ref l)])[j]? = some (k1, .ref b) → (j < xs.length ∧ xs[j]? = some (k1, .ref b)) ∨ (j = xs.length ∧ b = l) := fun j k1 h => by
      by_cases hj : j < xs.length
      · rw [List.getElem?_append_left hj] at h; exact .inl ⟨hj, h⟩
      · rw [List.getElem?_append_right (by omega)] at h
        by_cases h0 : j - xs.length = 0
        · rw [h0] at h; cases h; exact .inr ⟨by omega, rfl⟩
        · rw [List.getElem?_eq_none (by simp; omega)] at h; cases h
    rcases lem j k1 h1 with ⟨a1, a2⟩ | ⟨a1, a2⟩ <;> rcases lem j' k2 h2 with ⟨b1, b2⟩ | ⟨b1, b2⟩
    · exact p.inj j j' k1 k2 b a2 b2
    · exact absurd b2 (old j k1 b a2)
    · exact absurd a2 (old j' k2 b b2)
    · omega
end Zk
end

section
set_option Elab.async false
set_option linter.all false
set_option maxRecDepth 100000
set_option autoImplicit false
set_option maxHeartbeats 4000000
/-! Defs that are called where no guard stands; repr of data. -/
namespace Zg
open PySem PySem.Spec L2 Zk PyProof.Rows
open Evl (Ex)
/-- as FnOk, where no guard stands -/
structure FnG (P : Program) (w : World) (K : PySem.W.Frag) (mg : Str → Option Value) (base : Heap) (k : Nat) (f : Addr) (fd : FuncData) (ps : List Str) (sp : Sp) : Prop where
  len : ∀ vs H Q E, sp vs H Q E → vs.length = ps.length
  run : ∀ (A : Around), A.guards = some [] → ∀ (outer : List Env) (s : Shared) (H : Hp) (args : Args) (us : List Value) (vs : List V) (Q : VK) (E : XK), Room k A → Env0 P w K mg base A outer s H → BindsTo s fd args (ps.zip us) → Vals vs us → sp vs H Q E →
    codeAny (model P w) A (.call (.ref f) args) (CR CX0 outer P w H s Q E) s
section
variable {P : Program} {w : World} {K : PySem.W.Frag} {mg : Str → Option Value} {base : Heap}
theorem FnG.imp {k : Nat} {f : Addr} {fd : FuncData} {ps : List Str} {sp sp' : Sp} (F : FnG P w K mg base k f fd ps sp) (h : ∀ vs H Q E, sp' vs H Q E → sp vs H Q E) : FnG P w K mg base k f fd ps sp' :=
  ⟨fun vs H Q E q => F.len vs H Q E (h _ _ _ _ q), fun A hg outer s H args us vs Q E hr he hb hv hs => F.run A hg outer s H args us vs Q E hr he hb hv (h _ _ _ _ hs)⟩
theorem FnG.mono {j k : Nat} {f : Addr} {fd : FuncData} {ps : List Str} {sp : Sp} (F : FnG P w K mg base j f fd ps sp) (h : j ≤ k) : FnG P w K mg base k f fd ps sp :=
  ⟨F.len, fun A hg outer s H args us vs Q E hr => F.run A hg outer s H args us vs Q E (hr.mono h)⟩
end
/-! ### calls -/
section
variable {X : Cx} {k : Nat} {f : Addr} {fd : FuncData} {ps : List Str} {sp : Sp} {x : Str} {p pos : Pos} {e : Expr} {es : List Expr} {t : TA}
/-! ### the law's own call -/
section
variable {P : Program} {w : World} {K : PySem.W.Frag} {mg mb : Str → Option Value} {k : Nat} {fa a : Addr} {fd : FuncData} {x : Str} {sp : Sp} {s₁ : Shared} {vs : List Value} {ns : List Int}
end
/-! ### repr -/
end
/-! ### tuples may be read off what is owned -/
mutual
def shD : D → Bool
  | .non => true | .bl _ => true | .int _ => true | .str _ => true | .ty _ => true | .cls _ => true
  | .tup ds => shDs ds
  | _ => false
def shDs : List D → Bool
  | [] => true
  | d :: ds => shD d && shDs ds
end
section
variable {K : PySem.W.Frag} {O O' : Addr → Prop} {H : Hp}
mutual
theorem rp_sh (o : ∀ a, O' a → Lv H a) : ∀ {d : D} {v : V}, Rp K O H v d → shD d = true → Rp K O' H v d
  | .non, _, .non, _ => .non
  | .bl _, _, .bl b, _ => .bl b
  | .int _, _, .int i, _ => .int i
  | .str _, _, .str s, _ => .str s
  | .ty _, _, .ty n, _ => .ty n
  | .cls _, _, .cls C, _ => .cls C
  | .tup ds, _, .tup n h r, f => .tup (fun z => (o _ z).2 _ h) h (rps_sh o r f)
  | .lst _, _, _, f => by cases f
  | .scr _, _, _, f => by cases f
  | .ins _ _, _, _, f => by cases f
  | .dct _, _, _, f => by cases f
  | .dck _, _, _, f => by cases f
  | .sti _ _, _, _, f => by cases f
  | .exn _ _ _ _, _, _, f => by cases f
  | .adr _ _, _, _, f => by cases f
theorem rps_sh (o : ∀ a, O' a → Lv H a) : ∀ {ds : List D} {vs : List V}, RpA K O H vs ds → shDs ds = true → RpA K O' H vs ds
  | [], _, .nil, _ => .nil
  | d :: ds, _, .cons r t, f => by
    unfold shDs at f
    rw [Bool.and_eq_true] at f
    exact .cons (rp_sh o r f.1) (rps_sh o t f.2)
end
end
/-! ### is True -/
end Zg
end

section
set_option Elab.async false
set_option linter.all false
set_option maxRecDepth 100000
set_option autoImplicit false
set_option maxHeartbeats 4000000
/-! Defs that raise: what leaves them, and what catches it. -/
namespace Zx
open PyProof.Rows hiding St
open PySem PySem.Spec L2 Zk
open Evl (Ex)
/-- what a statement raises: the class, and the slots as they stand then -/
abbrev XF : Type := Gm → Option (Addr × Gm)
section
variable {K : PySem.W.Frag} {W : WX} {ts tu : TS} {x y : XF} {t : SF} {tt : TT} {c : DTF}
end
/-! ### X() -/
section
variable {X : Cx} {C : Addr} {bmB : List Value} {B newId initId : String} {st : Stmt} {t : TS}
end
/-! ### a def that raises -/
section
variable {P : Program} {w : World} {K : PySem.W.Frag} {mg : Str → Option Value} {base : Heap}
end
/-! ### a call that raises, within a try -/
section
variable {X : Cx} {CX : CXT} {k : Nat} {f : Addr} {fd : FuncData} {ps ks : List Str} {sp : Sp} {E : St → XK} {x : Str} {p pos : Pos} {e : Expr} {es : List Expr} {kws : List Keyword} {ta tb : TA}
variable {g : List Value → List Value → List Value} {gV : List V → List V → List V}
end
section
variable {K : PySem.W.Frag} {W : WX} {ta tb : TA} {a b : DAF} {te : TE} {x : XF}
end
/-! ### the suite: slot i holds the exception at a -/
section
variable {i : Nat} {a : Addr} {σ : St} {te : TE} {tt : TT} {ts : TS}
end
section
variable {K : PySem.W.Frag} {i : Nat} {a : Addr} {te tf : TE} {tt tu : TT} {ts tv : TS} {d d2 : DF} {t u : DTF} {s v : SF}
end
/-! ### isinstance(e, C), isinstance(e, (A, B)) -/
section
variable {K : PySem.W.Frag} {i : Nat} {a D : Addr} {c : V} {cv : Value} {b : Bool}
end
/-! ### try -/
section
variable {K : PySem.W.Frag} {i : Nat} {c : Value} {x : XF} {hd : SF} {tb : WX → TS} {tsD : Addr → Addr → TS} {Wout : WX}
end
end Zx
end

section
set_option Elab.async false
set_option linter.all false
set_option maxRecDepth 100000
set_option autoImplicit false
set_option maxHeartbeats 4000000
/-! sorted(a list of pairs of ints), any number of them. -/
namespace Zv
open PyProof.Rows hiding St
open PySem PySem.Spec L2 Zk
open Evl (Ex)
abbrev Pr := Int × Int
/-- not behind -/
def LexLe (p q : Pr) : Prop := p.1 < q.1 ∨ (p.1 = q.1 ∧ p.2 ≤ q.2)
instance (p q : Pr) : Decidable (LexLe p q) := by unfold LexLe; infer_instance
def adr : Value → Addr
  | .ref t => t
  | _ => 0
section
variable {X : Cx}
end
/-! ### the same on data -/
section
variable {K : PySem.W.Frag} {O : Addr → Prop} {H : Hp}
end
end Zv
end

section
set_option Elab.async false
set_option linter.all false
set_option maxRecDepth 100000
set_option autoImplicit false
set_option maxHeartbeats 2000000
/-! match x: case (tag, a, b): .. -/
namespace Zm
open PySem L2 Zk PyProof.Rows
open Evl (Ex)
section
variable {X : Cx} {pins : List (Addr × Obj)} {σ : L2.St} {H : Hp} {s : Shared}
/-- plain captures, into slots -/
inductive CapsOk (X : Cx) : List Pattern → List Nat → Prop
  | nil : CapsOk X [] []
  | cons {x : Str} {p : Pos} {j : Nat} {ps : List Pattern} {js : List Nat} (hj : X.N[j]? = some x) (hl : X.env.scope.names.lookup x = some .local) (h : CapsOk X ps js) : CapsOk X (.MatchAs none (some x) p :: ps) (j :: js)
theorem CapsOk.len : ∀ {ps : List Pattern} {js : List Nat}, CapsOk X ps js → ps.length = js.length
  | _, _, .nil => rfl
  | _, _, .cons _ _ h => congrArg (· + 1) h.len
/-- the cases, each with its tag, its slots and its body's reading -/
inductive PMs (X : Cx) : List MatchCase → List (Str × List Nat × TS) → Prop
  | nil : PMs X [] []
  | cons {tag : Str} {kk : Nat} {pp p1 pos : Pos} {caps : List Pattern} {js : List Nat} {body : List Stmt} {ts : TS} {rest : List MatchCase} {cs : List (Str × List Nat × TS)}
    (ck : CapsOk X caps js) (hb : PSs X body ts) (h : PMs X rest cs) : PMs X (⟨.MatchSequence (.MatchValue (.Constant (.str tag) kk pp) p1 :: caps) pos, none, body⟩ :: rest) ((tag, js, ts) :: cs)
end
/-! ### the same on data -/
section
variable {K : PySem.W.Frag}
abbrev Cse := Str × List Nat × SF
inductive SRs (K : PySem.W.Frag) : List (Str × List Nat × TS) → List Cse → Prop
  | nil : SRs K [] []
  | cons {tag : Str} {js : List Nat} {ts : TS} {s : SF} {cs : List (Str × List Nat × TS)} {ds : List Cse} (h : SR K ts s) (r : SRs K cs ds) : SRs K ((tag, js, ts) :: cs) ((tag, js, s) :: ds)
/-! step by step -/
end
end Zm
end

section
set_option Elab.async false
set_option linter.all false
set_option maxRecDepth 100000
set_option autoImplicit false
set_option maxHeartbeats 2000000
/-! Reckoning with the data. -/
namespace Zk
open PySem L2
/-- a loop by a word over the turn's number -/
theorem loop_inv {f : DGF} {s : SF} {ds : List D} (I : Nat → Gm → Prop) {g : Gm} (h0 : I 0 g) (hs : ∀ (i : Nat) (d : D) (g : Gm), ds[i]? = some d → I i g → ∃ g1 g2, f d g = some g1 ∧ (s g1 = some (.nx g2) ∨ s g1 = some (.ct g2)) ∧ I (i + 1) g2) :
    ∃ g', loopD f s ds g = some (.nx g') ∧ I ds.length g' := by
  induction ds generalizing I g with
  | nil => exact ⟨g, rfl, h0⟩
  | cons d ds ih =>
    obtain ⟨g1, g2, h1, h2, h3⟩ := hs 0 d g rfl h0
    obtain ⟨g', e, h4⟩ := ih (fun i g => I (i + 1) g) h3 fun i e g he hI => hs (i + 1) e g (by simpa using he) hI
    refine ⟨g', ?_, h4⟩
    unfold loopD
    rw [h1, Option.bind_some]
    rcases h2 with h2 | h2
    · rw [h2]; exact e
    · rw [h2]; exact e
end Zk
end

section
set_option Elab.async false
set_option linter.all false
set_option maxRecDepth 100000
set_option autoImplicit false
set_option maxHeartbeats 2000000
/-! The combinators, step by step. -/
namespace Zk
open PySem L2
section
variable {f f' : D → D → Option D} {h : D → Option D} {hN : List D → Option D} {a b c : DF} {r : DAF} {g : Gm} {x y d e : D} {xs ds : List D} {t u : DTF} {s q : SF} {i n : Nat} {o : Option Wd} {k : Bool} {tg : DGF}
def ap1 {α : Type} (h : D → Option α) : Option D → Option α := fun x => x.bind h
theorem ap1_some {α : Type} {h : D → Option α} : ap1 h (some x) = h x := rfl
def ap2 (f : D → D → Option D) : Option D → Option D → Option D := fun x y => x.bind fun x => y.bind fun y => f x y
theorem ap2_some : ap2 f (some x) (some y) = f x y := rfl
def apN (h : List D → Option D) : Option (List D) → Option D := fun x => x.bind h
theorem apN_some : apN hN (some xs) = hN xs := rfl
def apC : Option D → Option (List D) → Option (List D) := fun x r => x.bind fun x => r.bind fun xs => some (x :: xs)
theorem apC_some : apC (some x) (some xs) = some (x :: xs) := rfl
theorem d1_a : d1 h a g = ap1 h (a g) := rfl
theorem d2_a : d2 f a b g = ap2 f (a g) (b g) := rfl
theorem dN_a : dN hN r g = apN hN (r g) := rfl
theorem aNil_a : aNil g = some [] := rfl
theorem aCons_a : aCons a r g = apC (a g) (r g) := rfl
theorem dC_a : dC d g = some d := rfl
theorem dVar_z : dVar 0 (some (.v d) :: g) = some d := rfl
theorem dVar_s : dVar (i + 1) (o :: g) = dVar i g := rfl
theorem tDt_a {h : D → Option Bool} : tDt h a g = ap1 h (a g) := rfl
def apAnd : Option Bool → DTF → Gm → Option Bool := fun x b g => x.bind fun x => if x = true then b g else some false
theorem apAnd_t : apAnd (some true) u g = u g := rfl
theorem apAnd_f : apAnd (some false) u g = some false := rfl
def apOr : Option Bool → DTF → Gm → Option Bool := fun x b g => x.bind fun x => if x = true then some true else b g
theorem apOr_t : apOr (some true) u g = some true := rfl
theorem apOr_f : apOr (some false) u g = u g := rfl
theorem dAndT_a : dAndT t u g = apAnd (t g) u g := rfl
theorem dOrT_a : dOrT t u g = apOr (t g) u g := rfl
def apNot : Option Bool → Option Bool := fun x => x.map (!·)
theorem apNot_some : apNot (some k) = some (!k) := rfl
theorem dNotT_a : dNotT t g = apNot (t g) := rfl
def apAndV : Option D → DF → Gm → Option D := fun x b g => x.bind fun x => match x with
  | .bl true => b g
  | .bl false => some (.bl false)
  | _ => none
theorem apAndV_t : apAndV (some (.bl true)) b g = b g := rfl
theorem apAndV_f : apAndV (some (.bl false)) b g = some (.bl false) := rfl
theorem dAndV_a : dAndV a b g = apAndV (a g) b g := rfl
def apOrV : Option D → DF → Gm → Option D := fun x b g => x.bind fun x => match x with
  | .bl true => some (.bl true)
  | .bl false => b g
  | _ => none
theorem apOrV_t : apOrV (some (.bl true)) b g = some (.bl true) := rfl
theorem apOrV_f : apOrV (some (.bl false)) b g = b g := rfl
theorem dOrV_a : dOrV a b g = apOrV (a g) b g := rfl
def apIf : Option Bool → DF → DF → Gm → Option D := fun x a b g => x.bind fun x => if x = true then a g else b g
theorem apIf_t : apIf (some true) a b g = a g := rfl
theorem apIf_f : apIf (some false) a b g = b g := rfl
theorem dIf_a : dIf t a b g = apIf (t g) a b g := rfl
def apCh (f' : D → D → Option D) (y : D) (c : DF) (g : Gm) : Option D → Option D := fun z => z.bind fun z => match z with
  | .bl true => (c g).bind fun w => f' y w
  | .bl false => some (.bl false)
  | _ => none
theorem apCh_t : apCh f' y c g (some (.bl true)) = ap2 f' (some y) (c g) := rfl
theorem apCh_f : apCh f' y c g (some (.bl false)) = some (.bl false) := rfl
def apChain (f f' : D → D → Option D) : Option D → Option D → DF → Gm → Option D := fun x y c g => x.bind fun x => y.bind fun y => apCh f' y c g (f x y)
theorem apChain_some : apChain f f' (some x) (some y) c g = apCh f' y c g (f x y) := rfl
theorem dChain_a : dChain f f' a b c g = apChain f f' (a g) (b g) c g := rfl
/-! ### statements -/
def apSeq : Option Out → SF → Option Out := fun o u => o.bind fun o => sThen o u
theorem apSeq_nx {g : Gm} : apSeq (some (.nx g)) q = q g := (rfl)
theorem apSeq_rt {w : Wd} : apSeq (some (.rt w)) q = some (.rt w) := rfl
theorem apSeq_ct {g : Gm} : apSeq (some (.ct g)) q = some (.ct g) := rfl
theorem apSeq_bk {g : Gm} : apSeq (some (.bk g)) q = some (.bk g) := rfl
theorem sSeq_a : sSeq s q g = apSeq (s g) q := rfl
def apIfS : Option Bool → SF → SF → Gm → Option Out := fun x s u g => x.bind fun x => if x = true then s g else u g
theorem apIfS_t : apIfS (some true) s q g = s g := rfl
theorem apIfS_f : apIfS (some false) s q g = q g := rfl
theorem sIf_a : sIf t s q g = apIfS (t g) s q g := rfl
theorem sNext_a : sNext g = some (.nx g) := rfl
theorem sCont_a : sCont g = some (.ct g) := rfl
theorem sBreak_a : sBreak g = some (.bk g) := rfl
def apRet : Option D → Option Out := fun x => x.map fun d => .rt (.v d)
theorem apRet_some : apRet (some d) = some (.rt (.v d)) := rfl
theorem sRet_a : sRet a g = apRet (a g) := rfl
def apRetO : Option D → Option Out := fun x => x.map fun d => .rt (.o d)
theorem apRetO_some : apRetO (some d) = some (.rt (.o d)) := rfl
theorem sRetO_a : sRetO a g = apRetO (a g) := rfl
theorem sRetN_a : sRetN g = some (.rt (.v .non)) := rfl
def getO : Gm → Nat → Option D := fun g i => match g[i]? with
  | some (some (.o d)) => some d
  | _ => none
theorem getO_z : getO (some (.o d) :: g) 0 = some d := rfl
theorem getO_s : getO (o :: g) (i + 1) = getO g i := rfl
def apRetV : Option D → Option Out := fun x => x.map fun d => .rt (.o d)
theorem apRetV_some : apRetV (some d) = some (.rt (.o d)) := rfl
theorem sRetV_a : sRetV i g = apRetV (getO g i) := by
  unfold sRetV apRetV getO
  cases e : g[i]? with
  | none => rfl
  | some o =>
    cases o with
    | none => rfl
    | some w => cases w <;> rfl
def ltB : Gm → Nat → Bool := fun g i => decide (i < g.length)
theorem ltB_z : ltB (o :: g) 0 = true := rfl
theorem ltB_s : ltB (o :: g) (i + 1) = ltB g i := by
  unfold ltB
  rw [List.length_cons]
  simp
theorem okSlot_s : okSlot (o :: g) (i + 1) = ltB g i := by
  unfold okSlot ltB
  rw [List.length_cons]
  simp
def apAsg : Option D → DGF → Gm → Option Out := fun x f g => x.bind fun d => (f d g).map .nx
theorem apAsg_some : apAsg (some d) tg g = (tg d g).map .nx := rfl
theorem sAsg_a : sAsg a tg g = apAsg (a g) tg g := rfl
theorem dName_ok (h : okSlot g i = true) : dName i d g = some (g.set i (some (.v d))) := if_pos h
def apG : Option Gm → (Gm → Option Gm) → Option Gm := fun x k => x.bind k
theorem apG_some {k : Gm → Option Gm} : apG (some g) k = k g := rfl
theorem dgCons_a {m : DGFs} : dgCons tg m (d :: ds) g = apG (tg d g) (m ds) := rfl
theorem dgNil_a : dgNil [] g = some g := rfl
def apAsgO : Option D → Nat → Gm → Option Out := fun x i g => x.bind fun d => if okSlot g i = true then some (.nx (g.set i (some (.o d)))) else none
theorem apAsgO_some (h : okSlot g i = true) : apAsgO (some d) i g = some (.nx (g.set i (some (.o d)))) := if_pos h
theorem sAsgO_a : sAsgO a i g = apAsgO (a g) i g := rfl
def apApp : Option D → Option D → Nat → Gm → Option Out := fun x y i g => x.bind fun d => match y with
  | some (.lst ds) => if ds.length < 100000 then some (.nx (g.set i (some (.o (.lst (ds ++ [d])))))) else none
  | _ => none
theorem apApp_some (h : ds.length < 100000) : apApp (some d) (some (.lst ds)) i g = some (.nx (g.set i (some (.o (.lst (ds ++ [d])))))) := if_pos h
theorem sApp_a : sApp i a g = apApp (a g) (getO g i) i g := by
  unfold sApp apApp getO
  congr 1
  funext d
  cases e : g[i]? with
  | none => rfl
  | some o =>
    cases o with
    | none => rfl
    | some w =>
      cases w with
      | v d => rfl
      | o d => cases d <;> rfl
def apSetI : Option D → Option D → Option D → Nat → Gm → Option Out := fun x z y i g => x.bind fun d => z.bind fun z => match z, y with
  | .int k, some (.lst ds) => (ixN ds.length k).map fun j => .nx (g.set i (some (.o (.lst (ds.set j d)))))
  | _, _ => none
theorem apSetI_some {j : Nat} (h : j < ds.length) : apSetI (some d) (some (.int (j : Int))) (some (.lst ds)) i g = some (.nx (g.set i (some (.o (.lst (ds.set j d)))))) := by
  unfold apSetI
  simp only [Option.bind_some]
  rw [Evl.ixN_nat h] <;> rfl
theorem sSetI_a : sSetI i b a g = apSetI (a g) (b g) (getO g i) i g := by
  unfold sSetI apSetI getO
  congr 1
  funext d
  congr 1
  funext z
  cases e : g[i]? with
  | none => cases z <;> rfl
  | some o =>
    cases o with
    | none => cases z <;> rfl
    | some w =>
      cases w with
      | v d => cases z <;> rfl
      | o d => cases d <;> cases z <;> rfl
def apFor : Option (List D) → DGF → SF → Gm → Option Out := fun x f s g => x.bind fun ds => loopD f s ds g
theorem apFor_some : apFor (some ds) tg s g = loopD tg s ds g := rfl
theorem sFor_a {it : DIF} : sFor it tg s g = apFor (it g) tg s g := rfl
theorem dItems_a : dItems a g = ap1 itemsD (a g) := rfl
def apR1 : Option (List D) → Option (List D) := fun x => x.bind fun xs => match xs with
  | [.int n] => if n ≤ 1000000 ∧ -1000000 ≤ n then some (rngL 0 n.toNat) else none
  | _ => none
theorem apR1_some {n : Nat} (h : n ≤ 1000000) : apR1 (some [.int (n : Int)]) = some (rngL 0 n) := if_pos (by omega)
theorem dRng1_a : dRng1 r g = apR1 (r g) := rfl
def apR2 : Option (List D) → Option (List D) := fun x => x.bind fun xs => match xs with
  | [.int i, .int j] => if (i ≤ 1000000 ∧ -1000000 ≤ i) ∧ j ≤ 1000000 ∧ -1000000 ≤ j then some (rngL i (j - i).toNat) else none
  | _ => none
theorem apR2_some {i j : Int} (h : (i ≤ 1000000 ∧ -1000000 ≤ i) ∧ j ≤ 1000000 ∧ -1000000 ≤ j) : apR2 (some [.int i, .int j]) = some (rngL i (j - i).toNat) := if_pos h
theorem dRng2_a : dRng2 r g = apR2 (r g) := rfl
def apEn : Option (List D) → Option (List D) := fun x => x.bind fun xs => match xs with
  | [.lst ds] => some (enumL 0 ds)
  | [.tup ds] => some (enumL 0 ds)
  | _ => none
theorem apEn_some : apEn (some [.lst ds]) = some (enumL 0 ds) := rfl
theorem apEn_tup : apEn (some [.tup ds]) = some (enumL 0 ds) := rfl
theorem dEnum_a : dEnum r g = apEn (r g) := rfl
/-! ### freezing -/
theorem sFrz_a {l : List Nat} : sFrz l s g = s (frzs g l) := rfl
def frzI : Gm → Nat → Gm := fun g i => match g[i]? with
  | some (some (.o d)) => g.set i (some (.v d))
  | _ => g
theorem frzs_nil : frzs g [] = g := rfl
theorem frzs_cons {l : List Nat} : frzs g (i :: l) = frzs (frz1 g i) l := rfl
theorem frzI_o : frzI (some (.o d) :: g) 0 = some (.v d) :: g := rfl
theorem frzI_v : frzI (some (.v d) :: g) 0 = some (.v d) :: g := rfl
theorem frzI_n : frzI (none :: g) 0 = none :: g := rfl
theorem frzI_s : frzI (o :: g) (i + 1) = o :: frzI g i := by
  unfold frzI
  rw [List.getElem?_cons_succ]
  cases e : g[i]? with
  | none => rfl
  | some p =>
    cases p with
    | none => rfl
    | some w => cases w <;> rfl
theorem frz1_s : frz1 (o :: g) (i + 1) = o :: frzI g i := by
  rw [← frzI_s]
  unfold frz1 frzI
  rw [if_neg (Nat.succ_ne_zero i)] <;> rfl
theorem frzAll_nil : frzAll [] = [] := rfl
theorem frzAll_o : frzAll (some (.o d) :: g) = some (.v d) :: frzAll g := rfl
theorem frzAll_v : frzAll (some (.v d) :: g) = some (.v d) :: frzAll g := rfl
theorem frzAll_n : frzAll (none :: g) = none :: frzAll g := rfl
theorem peekT_a : peekT t g = t (frzAll g) := rfl
def apPk : Option D → Option D := fun x => match x with
  | some d => if d.flat = true then some d else none
  | none => none
theorem apPk_int {j : Int} : apPk (some (.int j)) = some (.int j) := rfl
theorem apPk_bl {j : Bool} : apPk (some (.bl j)) = some (.bl j) := rfl
theorem apPk_str {j : Str} : apPk (some (.str j)) = some (.str j) := rfl
theorem apPk_non : apPk (some .non) = some .non := rfl
theorem peekF_a : peekF a g = apPk (a (frzAll g)) := rfl
/-! ### calls -/
def apCall (n : Nat) (gf : PF) : Option (List D) → Option D := fun x => x.bind fun ds => if ds.length = n then (gf ds).map Wd.d else none
theorem dCall_a {gf : PF} : dCall n gf r g = apCall n gf (r g) := rfl
def toO : Option Wd → Option D := fun x => match x with
  | some (.o d) => some d
  | _ => none
theorem toO_o : toO (some (.o d)) = some d := rfl
def apCallO (n : Nat) (gf : PF) : Option (List D) → Option D := fun x => x.bind fun ds => if ds.length = n then toO (gf ds) else none
theorem dCallO_a {gf : PF} : dCallO n gf r g = apCallO n gf (r g) := by
  unfold dCallO apCallO toO
  rfl
def apMake (C : Addr) (n : Nat) (gf : List D → Option (List (Str × D))) : Option (List D) → Option D := fun x => x.bind fun ds => if ds.length = n then (gf ds).map (.ins C) else none
theorem dMake_a {C : Addr} {gf : List D → Option (List (Str × D))} : dMake C n gf r g = apMake C n gf (r g) := rfl
theorem Wd_v : Wd.d (.v d) = d := rfl
theorem Wd_o : Wd.d (.o d) = d := rfl
/-! ### comprehensions, slices -/
theorem dLc_eq {it : DIF} {tt : DTF} {te : DF} {vs : List Nat} {es : List D} (hf : free g vs = true) (hi : it g = some ds) (hz : ds.length ≤ 100000) (h : lcL tg tt te (wipeG g vs) ds = some es) : dLc it tg tt te vs g = some (.lst es) := by
  unfold dLc
  rw [if_pos hf, hi, Option.bind_some, if_pos hz, h] <;> rfl
def apSl : Option D → Option (Option Int) → Option (Option Int) → Option D := fun x l h => x.bind fun x => l.bind fun l => h.bind fun h => slD x l h
theorem dSl_a {lo hi : DOF} : dSl a lo hi g = apSl (a g) (lo g) (hi g) := rfl
theorem apSl_some {lo hi : Option Int} : apSl (some (.lst ds)) (some lo) (some hi) = some (.lst (cutL ds lo hi)) := rfl
theorem oNone_a : oNone g = some none := rfl
def apO : Option D → Option (Option Int) := fun x => x.bind fun x => match x with
  | .int i => some (some i)
  | _ => none
theorem oSome_a : oSome a g = apO (a g) := rfl
theorem apO_some {j : Int} : apO (some (.int j)) = some (some j) := rfl
/-! ### operators -/
variable {j k' : Int} {p p' : Str}
theorem add_ii : addD (.int j) (.int k') = some (.int (j + k')) := rfl
theorem add_ll {es : List D} (h : ds.length + es.length ≤ 100000) : addD (.lst ds) (.lst es) = some (.lst (ds ++ es)) := if_pos h
theorem sub_ii : subD (.int j) (.int k') = some (.int (j - k')) := rfl
theorem mul_ii (h : j.natAbs.log2 + k'.natAbs.log2 < 100000000) : mulD (.int j) (.int k') = some (.int (j * k')) := if_pos h
theorem log2_lt_of {m n : Nat} (h : m < 2 ^ n) (hn : 0 < n) : m.log2 < n := by
  by_cases e : m = 0
  · rw [e]; simpa using hn
  · exact (Nat.log2_lt e).mpr h
theorem mul_small (h : j.natAbs < 2 ^ 1000) (h' : k'.natAbs < 2 ^ 1000) : mulD (.int j) (.int k') = some (.int (j * k')) := mul_ii (by
  have h1 := log2_lt_of h (by decide)
  have h2 := log2_lt_of h' (by decide)
  omega)
theorem fdiv_ii (h : 0 < k') (h' : k'.natAbs < 2 ^ 8000) : fdivD (.int j) (.int k') = some (.int (j / k')) := if_pos ⟨h, by
  have := log2_lt_of h' (by decide)
  omega⟩
theorem mod_ii (h : 0 < k') : modD (.int j) (.int k') = some (.int (j % k')) := if_pos h
theorem lt_ii : ltD (.int j) (.int k') = some (.bl (decide (j < k'))) := rfl
theorem le_ii : leD (.int j) (.int k') = some (.bl (decide (j ≤ k'))) := rfl
theorem gt_ii : gtD (.int j) (.int k') = some (.bl (decide (k' < j))) := rfl
theorem ge_ii : geD (.int j) (.int k') = some (.bl (decide (k' ≤ j))) := rfl
theorem eq_ii : eqD (.int j) (.int k') = some (.bl (j == k')) := rfl
theorem ne_ii : neD (.int j) (.int k') = some (.bl (!(j == k'))) := rfl
theorem neg_i : negD (.int j) = some (.int (-j)) := rfl
theorem not_b : notD (.bl k) = some (.bl (!k)) := rfl
theorem bl_b : blD (.bl k) = some k := rfl
theorem tru_b : truD (.bl k) = some k := rfl
theorem tru_i : truD (.int j) = some (j != 0) := rfl
theorem tru_l : truD (.lst ds) = some (!ds.isEmpty) := rfl
theorem tru_t : truD (.tup ds) = some (!ds.isEmpty) := rfl
theorem tru_n : truD .non = some false := rfl
theorem len_l : lenD [.lst ds] = some (.int ds.length) := rfl
theorem len_t : lenD [.tup ds] = some (.int ds.length) := rfl
theorem len_scr {ns : List Int} : lenD [.scr ns] = some (.int ns.length) := rfl
theorem abs_i : absD [.int j] = some (.int (if j < 0 then -j else j)) := rfl
theorem int_i : intD [.int j] = some (.int j) := rfl
theorem list_l : listD [.lst ds] = some (.lst ds) := rfl
theorem list_t : listD [.tup ds] = some (.lst ds) := rfl
theorem tuple_l : tupleD [.lst ds] = some (.tup ds) := rfl
theorem tuple_t : tupleD [.tup ds] = some (.tup ds) := rfl
theorem min_ii : minD [.int j, .int k'] = some (.int (if k' < j then k' else j)) := rfl
theorem max_ii : maxD [.int j, .int k'] = some (.int (if k' > j then k' else j)) := rfl
theorem mkLst_some (h : ds.length ≤ 100000) : mkLst ds = some (.lst ds) := if_pos h
theorem mkTup_some (h : ds.length ≤ 100000) : mkTup ds = some (.tup ds) := if_pos h
theorem rev_l : revD (.lst ds) = some (.lst ds.reverse) := rfl
theorem items_l : itemsD (.lst ds) = some ds := rfl
theorem items_t : itemsD (.tup ds) = some ds := rfl
theorem ix_l {m : Nat} (h : ds[m]? = some d) : ixD (.lst ds) (.int (m : Int)) = some d := atI_nat h
theorem ix_t {m : Nat} (h : ds[m]? = some d) : ixD (.tup ds) (.int (m : Int)) = some d := atI_nat h
theorem ix_scr {ns : List Int} {m : Nat} (h : ns[m]? = some j) : ixD (.scr ns) (.int (m : Int)) = some (.int j) := by
  show (atI ns (m : Int)).map D.int = _
  rw [atI_nat h] <;> rfl
theorem iL_get {ns : List Int} {m : Nat} : (iL ns)[m]? = (ns[m]?).map D.int := by unfold iL; rw [List.getElem?_map]
theorem iL_len {ns : List Int} : (iL ns).length = ns.length := by unfold iL; rw [List.length_map]
theorem iL_app {ns ms : List Int} : iL ns ++ iL ms = iL (ns ++ ms) := by unfold iL; rw [List.map_append]
theorem iL_one : [D.int j] = iL [j] := rfl
theorem rng_get {lo : Int} {n i : Nat} (h : (rngL lo n)[i]? = some d) : i < n ∧ d = .int (lo + i) := by
  unfold rngL at h
  rw [List.getElem?_map] at h
  have hi : i < n := by
    cases z : (List.range n)[i]? with
    | none => rw [z] at h; cases h
    | some j => have := (List.getElem?_eq_some_iff.mp z).1; rw [List.length_range] at this; exact this
  rw [List.getElem?_range hi] at h
  cases h
  exact ⟨hi, rfl⟩
theorem rng_len {lo : Int} {n : Nat} : (rngL lo n).length = n := by unfold rngL; rw [List.length_map, List.length_range]
def outW : Option Out → Option Wd := fun x => match x with
  | some (.rt w) => some w
  | some (.nx _) => some (.v .non)
  | _ => none
theorem run_a {m : Nat} {t : SF} {ds : List D} : runG m t ds = outW (t (ds.map (fun d => some (.v d)) ++ List.replicate m none)) := rfl
theorem outW_rt {w : Wd} : outW (some (.rt w)) = some w := rfl
theorem outW_nx : outW (some (.nx g)) = some (.v .non) := rfl
end
end Zk
end

section
set_option Elab.async false
set_option linter.all false
set_option maxRecDepth 100000
set_option autoImplicit false
set_option maxHeartbeats 2000000
/-! Sets of ints; dicts whose keys are ints or texts. -/
namespace Zn
open PySem L2 Zk
open Evl (Ex)
variable {K : PySem.W.Frag}
/-! ### dicts -/
def getK (kvs : List (Key × D)) (k : Key) : Option D := (kvs.find? fun kv => decide (kv.1 = k)).map (·.2)
def setK (kvs : List (Key × D)) (k : Key) (d : D) : List (Key × D) :=
  if (kvs.any fun kv => decide (kv.1 = k)) = true then kvs.map (fun kv => if kv.1 = k then (kv.1, d) else kv) else kvs ++ [(k, d)]
def RpD (K : PySem.W.Frag) (O : Addr → Prop) (H : Hp) (xs : List (Key × V)) (kvs : List (Key × D)) : Prop := xs.map (·.1) = kvs.map (·.1) ∧ RpA K O H (xs.map (·.2)) (kvs.map (·.2))
theorem RpD.nil {O : Addr → Prop} {H : Hp} : RpD K O H [] [] := ⟨rfl, .nil⟩
theorem RpD.inv {O : Addr → Prop} {H : Hp} {x : Key × V} {xs : List (Key × V)} {kvs : List (Key × D)} (r : RpD K O H (x :: xs) kvs) : ∃ d kvs', kvs = (x.1, d) :: kvs' ∧ Rp K O H x.2 d ∧ RpD K O H xs kvs' := by
  obtain ⟨e, r⟩ := r
  cases kvs with
  | nil => cases e
  | cons kv kvs =>
    rw [List.map_cons, List.map_cons] at e r
    have e1 := (List.cons.inj e).1
    cases r with
    | cons a b => exact ⟨kv.2, kvs, by rw [e1], a, (List.cons.inj e).2, b⟩
theorem RpD.get {O : Addr → Prop} {H : Hp} : ∀ {xs : List (Key × V)} {kvs : List (Key × D)} (k : Key), RpD K O H xs kvs →
    (getK kvs k = none ∧ valV xs k = none) ∨ ∃ d v, getK kvs k = some d ∧ valV xs k = some v ∧ Rp K O H v d
  | [], kvs, k, r => by
    obtain ⟨e, _⟩ := r
    cases kvs with
    | nil => exact .inl ⟨rfl, rfl⟩
    | cons a b => cases e
  | x :: xs, kvs, k, r => by
    obtain ⟨d, kvs', rfl, h1, h2⟩ := r.inv
    by_cases hk : x.1 = k
    · refine .inr ⟨d, x.2, ?_, valV_pos hk, h1⟩
      unfold getK
      rw [List.find?_cons, decide_eq_true hk]
      rfl
    · have ih := RpD.get k h2
      rw [valV_neg hk]
      have e : getK ((x.1, d) :: kvs') k = getK kvs' k := by
        unfold getK
        rw [List.find?_cons, decide_eq_false hk]
      rw [e]
      exact ih
theorem RpD.set {O : Addr → Prop} {H : Hp} {xs : List (Key × V)} {kvs : List (Key × D)} (k : Key) {v : V} {d : D} (r : RpD K O H xs kvs) (hv : Rp K O H v d) : RpD K O H (putK xs k v) (setK kvs k d) := by
  have ha : (xs.any fun kv => decide (kv.1 = k)) = (kvs.any fun kv => decide (kv.1 = k)) := by
    have e1 : ∀ l : List (Key × V), (l.any fun kv => decide (kv.1 = k)) = ((l.map (·.1)).any fun z => decide (z = k)) := fun l => by rw [List.any_map]; rfl
    have e2 : ∀ l : List (Key × D), (l.any fun kv => decide (kv.1 = k)) = ((l.map (·.1)).any fun z => decide (z = k)) := fun l => by rw [List.any_map]; rfl
    rw [e1, e2, r.1]
  unfold putK setK
  rw [ha]
  split
  · have go : ∀ (xs : List (Key × V)) (kvs : List (Key × D)), RpD K O H xs kvs → RpD K O H (xs.map fun kv => if kv.1 = k then (kv.1, v) else kv) (kvs.map fun kv => if kv.1 = k then (kv.1, d) else kv) := by
      intro xs
      induction xs with
      | nil =>
        intro kvs r
        cases kvs with
        | nil => exact .nil
        | cons a b => cases r.1
      | cons x xs ih =>
        intro kvs r
        obtain ⟨d', kvs', rfl, h1, h2⟩ := r.inv
        have ih := ih kvs' h2
        rw [List.map_cons, List.map_cons]
        by_cases hk : x.1 = k
        · rw [if_pos hk, if_pos hk]
          exact ⟨by rw [List.map_cons, List.map_cons, ih.1], .cons hv ih.2⟩
        · rw [if_neg hk, if_neg hk]
          exact ⟨by rw [List.map_cons, List.map_cons, ih.1], .cons h1 ih.2⟩
    exact go xs kvs r
  · exact ⟨by rw [List.map_append, List.map_append, r.1]; rfl, by rw [List.map_append, List.map_append]; exact r.2.app (.one hv)⟩
theorem RpD.kp {O O' : Addr → Prop} {H H' : Hp} (k : Kp O H O' H') {xs : List (Key × V)} {kvs : List (Key × D)} (r : RpD K O H xs kvs) : RpD K O' H' xs kvs := ⟨r.1, r.2.kp k⟩
theorem RpD.len {O : Addr → Prop} {H : Hp} {xs : List (Key × V)} {kvs : List (Key × D)} (r : RpD K O H xs kvs) : xs.length = kvs.length := by
  have := congrArg List.length r.1
  rw [List.length_map, List.length_map] at this
  exact this
section
variable {tk tx tv : TE} {k x a : DF} {i : Nat}
end
/-! ### sets of ints -/
section
variable {w : World} {tk : TE} {k : DF} {i : Nat}
end
/-! ### steps -/
section
variable {g : Gm} {d e : D} {i : Nat} {kvs : List (Key × D)} {o : Option Wd} {a k : DF} {j : Int} {w : World} {ns : List Int}
end
end Zn
end

section
set_option Elab.async false
set_option linter.all false
set_option maxRecDepth 100000
set_option autoImplicit false
set_option maxHeartbeats 4000000
/-! Errors with a field: raised in loops and behind calls, caught, their field read. -/
namespace Zr
open PyProof.Rows hiding St
open PySem PySem.Spec L2 Zk
open Evl (Ex)
/-- what is raised: the class, its fields; the slots as they stand then -/
abbrev XV : Type := Addr × List (Str × D)
abbrev XF : Type := Gm → Option (XV × Gm)
section
variable {K : PySem.W.Frag} {W : WX} {ts tu : TS} {x y : XF} {t : SF} {tt : TT} {c : DTF}
end
/-! ### raise C(e): C keeps e in its one field -/
section
variable {P : Program} {w : World} {K : PySem.W.Frag} {mg : Str → Option Value} {base : Heap}
end
section
variable {K : PySem.W.Frag} {W : WX} {te : TE} {a : DF} {C : Addr} {fld : Str}
end
/-! ### a def that raises -/
section
variable {P : Program} {w : World} {K : PySem.W.Frag} {mg : Str → Option Value} {base : Heap}
end
/-! ### expressions that raise -/
section
variable {K : PySem.W.Frag} {W : WX} {ta tb : TA} {a b : DAF} {te : TE} {x : XF} {d : DF}
end
/-! ### in the except suite: slot i holds the error at a, its dict at dd -/
section
variable {K : PySem.W.Frag} {i : Nat} {a dd D : Addr} {fld : Str}
end
/-! ### try -/
section
variable {K : PySem.W.Frag} {i : Nat} {c : Value} {x : XF} {s : SF} {hd : Addr → Addr → SF} {tb : WX → TS} {tsD : Addr → Addr → TS} {Wout : WX} {D : Addr} {g : Gm}
end
/-! ### list(range(i, j)) -/
section
variable {K : PySem.W.Frag} {ta tb : TE} {a b : DF}
end
end Zr
end

section
set_option Elab.async false
set_option linter.all false
set_option maxRecDepth 100000
set_option autoImplicit false
set_option maxHeartbeats 2000000
/-! A def that hands back what it was handed, or a new list. -/
namespace Zb
open PySem L2 Zk
open Evl (Ex)
variable {K : PySem.W.Frag}
section
variable {gf : PF} {i : Nat} {a b : DF} {g : Gm} {x y : D} {dl dl' : List D}
end
/-! ### x or y, values -/
def dOrT (a b : DF) : DF := fun g => (a g).bind fun x => (truD x).bind fun k => if k = true then some x else b g
end Zb
end

section
set_option Elab.async false
set_option linter.all false
set_option maxRecDepth 100000
set_option autoImplicit false
set_option maxHeartbeats 2000000
/-! Dicts further: comprehensions, displays of one pair, update, list, sorted, sums of values. -/
namespace Zq
open PySem PySem.W PySem.Calls PyProof.Rows L2 Zk
open Evl (Ex)
section
variable {X : Cx} {pins : List (Addr × Obj)} {σ : L2.St} {H : Hp} {s : Shared} {d : Addr}
end
/-! ### d.update(e), whole numbers and texts for keys -/
def mergeD (kvs more : List (Key × D)) : List (Key × D) := more.foldl (fun acc kv => Zn.setK acc kv.1 kv.2) kvs
variable {K : PySem.W.Frag}
theorem RpD.merge {O : Addr → Prop} {H : Hp} : ∀ {ys : List (Key × V)} {more : List (Key × D)} {xs : List (Key × V)} {kvs : List (Key × D)}, Zn.RpD K O H ys more → Zn.RpD K O H xs kvs → Zn.RpD K O H (mergeK xs ys) (mergeD kvs more)
  | [], more, xs, kvs, r, q => by
    cases more with
    | nil => exact q
    | cons a b => cases r.1
  | y :: ys, more, xs, kvs, r, q => by
    obtain ⟨d, more', rfl, h1, h2⟩ := r.inv
    show Zn.RpD K O H (mergeK (putK xs y.1 y.2) ys) (mergeD (Zn.setK kvs y.1 d) more')
    exact RpD.merge h2 (q.set y.1 h1)
/-! ### {k: v for x in xs if t}, whole numbers and texts for keys -/
section
end
/-! ### list(d), sorted(d): the keys -/
/-! ### sum(e.values()) -/
def sumVD : D → Option D
  | .dct kvs => (asInts (kvs.map (·.2))).map fun ns => .int ns.sum
  | _ => none
/-! ### {k: v}, the key a tuple -/
end Zq
end

section
set_option Elab.async false
set_option linter.all false
set_option maxRecDepth 100000
set_option autoImplicit false
set_option maxHeartbeats 2000000
/-! Set comprehensions of pairs over two clauses, sorted. -/
namespace Zt
open PySem PySem.Spec PyProof.Rows L2 Zk
open Evl (Ex)

section
variable {prog : Program} {w : World} {A : Around} {R : Result → Shared → Prop} {s : Shared}
end
section
variable {X : Cx}
end

section
variable {X : Cx}
/-! ### two clauses -/
end
/-! ### on data -/
section
variable {K : PySem.W.Frag}
abbrev Pr := Int × Int
def dd : List Pr → List Pr
  | [] => []
  | p :: ps => if p ∈ ps then dd ps else p :: dd ps
theorem mem_dd {q : Pr} : ∀ {ps : List Pr}, q ∈ dd ps ↔ q ∈ ps
  | [] => Iff.rfl
  | p :: ps => by
    unfold dd
    have ih := mem_dd (q := q) (ps := ps)
    split
    · rename_i hp
      rw [ih, List.mem_cons]
      exact ⟨.inr, fun z => z.elim (fun e => e ▸ hp) id⟩
    · rw [List.mem_cons, List.mem_cons, ih]
theorem nodup_sub {α : Type} [DecidableEq α] : ∀ {l1 l2 : List α}, l1.Nodup → (∀ x ∈ l1, x ∈ l2) → l1.length ≤ l2.length
  | [], _, _, _ => Nat.zero_le _
  | a :: l1, l2, h, hs => by
    obtain ⟨h1, h2⟩ := List.nodup_cons.mp h
    have ih := nodup_sub (l2 := l2.erase a) h2 fun x hx => (List.mem_erase_of_ne fun e => h1 (by rw [← e]; exact hx)).mpr (hs x (List.mem_cons_of_mem _ hx))
    have ha := hs a List.mem_cons_self
    rw [List.length_erase_of_mem ha] at ih
    have := List.length_pos_of_mem ha
    rw [List.length_cons]
    omega
def lp (q : Pr) : List Int := [q.1, q.2]
/-- the set at D holds just these pairs -/
structure SetP (P : Program) (w : World) (O : Addr → Prop) (Dl : Addr) (H : Hp) (ps : List Pr) (L : List (Addr × List Int)) : Prop where
  at_ : H Dl = some (SetTO P w Dl L)
  tup : ∀ p ∈ L, ∃ q ∈ ps, p.2 = lp q ∧ ¬ O p.1 ∧ H p.1 = some (.tup [V.int q.1, V.int q.2])
  all : ∀ q ∈ ps, lp q ∈ L.map (·.2)
  nd : (L.map (·.2)).Nodup
theorem SetP.len {P : Program} {w : World} {O : Addr → Prop} {Dl : Addr} {H : Hp} {ps qs : List Pr} {L : List (Addr × List Int)} (h : SetP P w O Dl H ps L) (hs : ∀ q ∈ ps, q ∈ qs) : L.length ≤ (dd qs).length := by
  have e : L.length = (L.map (·.2)).length := by rw [List.length_map]
  have e2 : (dd qs).length = ((dd qs).map lp).length := by rw [List.length_map]
  rw [e, e2]
  refine nodup_sub h.nd fun x hx => ?_
  obtain ⟨p, hp, e⟩ := List.mem_map.mp hx
  obtain ⟨q, hq, e3, _⟩ := h.tup p hp
  rw [← e, e3]
  exact List.mem_map.mpr ⟨q, mem_dd.mpr (hs q hq), rfl⟩
def inB (q : Pr) : Prop := 0 ≤ q.1 ∧ q.1 < 64 ∧ 0 ≤ q.2 ∧ q.2 < 64
instance (q : Pr) : Decidable (inB q) := by unfold inB; exact inferInstance
theorem SetP.put {P : Program} {w : World} {O : Addr → Prop} {Dl t : Addr} {H : Hp} {ps : List Pr} {q : Pr} {L L' : List (Addr × List Int)} (h : SetP P w O Dl H ps L) (hO : O Dl) (nt : ¬ O t) (ht : H t = some (.tup [V.int q.1, V.int q.2]))
    (c1 : lp q ∈ L.map (·.2) → L' = L) (c2 : lp q ∉ L.map (·.2) → L'.Perm ((t, lp q) :: L)) : SetP P w O Dl (upd H Dl (SetTO P w Dl L')) (ps ++ [q]) L' := by
  have keep : ∀ a, ¬ O a → upd H Dl (SetTO P w Dl L') a = H a := fun a n => upd_ne fun z => n (by rw [z]; exact hO)
  have old : ∀ p ∈ L, ∃ r ∈ ps ++ [q], p.2 = lp r ∧ ¬ O p.1 ∧ upd H Dl (SetTO P w Dl L') p.1 = some (.tup [V.int r.1, V.int r.2]) := fun p hp => by
    obtain ⟨r, hr, e, n, z⟩ := h.tup p hp
    exact ⟨r, List.mem_append_left _ hr, e, n, by rw [keep _ n]; exact z⟩
  by_cases hm : lp q ∈ L.map (·.2)
  · have e := c1 hm
    subst e
    refine ⟨upd_same, old, fun r hr => ?_, h.nd⟩
    rcases List.mem_append.mp hr with hr | hr
    · exact h.all r hr
    · rw [List.mem_singleton.mp hr]; exact hm
  · have pm := c2 hm
    have pm2 := pm.map (·.2)
    refine ⟨upd_same, fun p hp => ?_, fun r hr => ?_, ?_⟩
    · rcases List.mem_cons.mp (pm.mem_iff.mp hp) with z | z
      · rw [z]
        exact ⟨q, List.mem_append_right _ List.mem_cons_self, rfl, nt, by rw [keep _ nt]; exact ht⟩
      · exact old p z
    · refine pm2.mem_iff.mpr ?_
      rw [List.map_cons]
      rcases List.mem_append.mp hr with hr | hr
      · exact List.mem_cons_of_mem _ (h.all r hr)
      · rw [List.mem_singleton.mp hr]; exact List.mem_cons_self
    · refine pm2.nodup_iff.mpr ?_
      rw [List.map_cons]
      exact List.nodup_cons.mpr ⟨hm, h.nd⟩
theorem SetP.ex {P : Program} {w : World} {O : Addr → Prop} {Dl : Addr} {H H2 : Hp} {ps : List Pr} {L : List (Addr × List Int)} (h : SetP P w O Dl H ps L) (e : Ex H H2) : SetP P w O Dl H2 ps L :=
  ⟨e _ _ h.at_, fun p hp => let ⟨q, a, b, c, d⟩ := h.tup p hp; ⟨q, a, b, c, e _ _ d⟩, h.all, h.nd⟩
end
end Zt
end

section
set_option Elab.async false
set_option linter.all false
set_option maxRecDepth 100000
set_option autoImplicit false
set_option maxHeartbeats 2000000
/-! A def that returns (x, list of its own); x, y = f(..). -/
namespace Zw
open PyProof.Rows hiding St
open PySem PySem.Spec L2 Zk
open Evl (Ex)
/-- what a body that ends so does -/
abbrev SF2 : Type := Gm → Option (D × D)
section
variable {K : PySem.W.Frag} {ts tu : TS} {s : SF} {u : SF2}
end
section
variable {K : PySem.W.Frag}
end
section
variable {P : Program} {w : World} {K : PySem.W.Frag} {mg : Str → Option Value} {base : Heap}
end
end Zw
end

section
set_option Elab.async false
set_option linter.all false
set_option maxRecDepth 100000
set_option autoImplicit false
set_option maxHeartbeats 2000000
/-! Texts: str(n), int(text), methods, slices, in; *xs, y = a list; enumerate(xs, start=k). -/
namespace L2
open PySem PySem.Spec PyProof.Rows

/-! ### a starred target -/
/-- (a, *b, c) = a list: b is a new list -/
def gStar (K : PySem.W.Frag) (n i : Nat) (t : TGs) : TG := fun v σ H Q => ∃ a xs, v = .ref a ∧ SqL K H a xs ∧ n ≤ xs.length + 1 ∧ xs.length ≤ 16384 ∧
  ∀ p, H p = none → t (xs.take i ++ [.ref p] ++ (xs.drop i).drop (xs.length + 1 - n)) σ (upd H p (.lst ((xs.drop i).take (xs.length + 1 - n)))) Q
section
variable {X : Cx} {pos p' : Pos}
theorem pgs_star {e : Expr} {es : List Expr} {t : TG} {u : TGs} (h1 : PG X e t) (h2 : PGs X es u)
    (hs : (assignEach (.Starred e p' :: es) X.env).map (·.2) = assign e X.env :: (assignEach es X.env).map (·.2) := by rfl) : PGs X (.Starred e p' :: es) (gCons t u) := by
  refine ⟨fun pins s σ H vs us Q I r h => ?_⟩
  obtain ⟨v, vr, e1, h⟩ := h
  subst e1
  cases r with
  | cons r rr =>
    rw [hs]
    refine assignInOrder_cons (thn (h1.run pins s σ H _ _ _ I r h) fun _ s1 ⟨σ1, H1, I1, q1⟩ => ?_)
    exact h2.run pins s1 σ1 H1 _ _ Q I1 rr q1
theorem Vals.app {xs ys : List V} {us ws : List Value} (r : Vals xs us) (q : Vals ys ws) : Vals (xs ++ ys) (us ++ ws) := by
  induction r with
  | nil => exact q
  | cons h _ ih => exact .cons h ih
theorem pg_star {es : List Expr} {k : Nat} {t : TGs} {n i : Nat} (hc : X.calm = true) (h : PGs X es t) (hi : i < n)
    (hn : (assignEach es X.env).length = n := by rfl) (hst : (assignEach es X.env).findIdx? (·.1) = some i := by rfl) : PG X (.Tuple es k pos) (gStar X.K n i t) := by
  refine ⟨fun pins s σ H v u Q I r hw => ?_⟩
  obtain ⟨a, xs, e1, hq, hl, hz, hw⟩ := hw
  subst e1
  cases r
  obtain ⟨its, rv, p, _⟩ := I.list hq
  have hlen : xs.length = its.length := rv.length
  have hil : s.heap.IsList a its.toArray := p.isList
  have hsz : its.toArray.size = xs.length := by rw [List.size_toArray, hlen]
  have hh := I.ok.hd hc
  have hlt : a ≠ s.heap.objs.size := by obtain ⟨o, ho, _⟩ := hil; exact Nat.ne_of_lt (Heap.lt_size ho)
  rw [assign_Tuple]
  refine wpAny_bind (wpAny_standAt ?_)
  unfold unpack
  rw [hn, hst]
  refine wpAny_bind (wpAny_holding ?_)
  unfold unpackItems
  refine wpAny_bind ?_
  unfold notIterableAtAll
  refine wpAny_bind (wpAny_specialOf hil.typeIs slot_list_iter.lookup ?_)
  refine wpAny_pure ?_
  simp only [Bool.false_eq_true, if_false]
  refine wpAny_bind (wpAny_holding (wpAny_pyIter_list hil ?_))
  refine wpAny_bind (wpAny_holding (PySem.W.kun_draw hlt i 0 _ _ ⟨_, Heap.get?_push_size _ rfl, rfl, rfl⟩ (hil.push _) (by omega) fun h₁ hit₁ hs₁ => ?_))
  have hl₁ : h₁.IsList a its.toArray := (hil.push _).extBut hs₁.extBut hlt
  rw [Nat.zero_add] at hit₁
  have hit₁' := hit₁
  obtain ⟨oi, hoi, _⟩ := hit₁'
  have hl₁' := hl₁
  obtain ⟨ol, hol, _⟩ := hl₁'
  rw [List.drop_zero]
  have hfl : (its.toArray.toList.take i).length = i := by rw [List.length_take]; simp only [List.toList_toArray]; omega
  rw [if_neg (show ¬ ((its.toArray.toList.take i).length < i) by rw [hfl]; omega)]
  refine wpAny_bind (wpAny_holding (PySem.W.kun_collect (s := { s with heap := h₁ }) (T := "list_iterator") (.inr (.inr (.inl rfl))) (Walks.list (A := X.A.in1) hh s.heap.objs.size a hlt its.toArray) (fun j u st => st.1.typeIs) (k := i) (by omega) ⟨hit₁, hl₁⟩ (Heap.lt_size hoi) (Heap.lt_size hol) (fun h₂ tk hk => ?_) (by rw [sizeLine_eq]; omega)))
  have hrl : (its.toArray.toList.drop i).length = xs.length - i := by rw [List.length_drop]; simp only [List.toList_toArray]; omega
  have hmid : (its.toArray.toList.drop i).length - (n - 1 - i) = xs.length + 1 - n := by rw [hrl]; omega
  show wpAny _ _ (if (its.toArray.toList.drop i).length < n - 1 - i then _ else _) _ _ _
  rw [if_neg (by rw [hrl]; omega)]
  show wpAny _ _ (newList ((its.toArray.toList.drop i).take ((its.toArray.toList.drop i).length - (n - 1 - i))) >>= fun d => pure (its.toArray.toList.take i ++ [d] ++ (its.toArray.toList.drop i).drop ((its.toArray.toList.drop i).length - (n - 1 - i)))) _ _ _
  rw [hmid]
  have he : Heap.ExtBut s.heap.objs.size s.heap h₂ := fun b o hb e => hk b o hb (hs₁.extBut b o hb (Heap.get?_push_of_some _ e))
  have I2 : Inv X pins σ H { s with heap := h₂, toks := tk } := I.kept fun b u q => he b u (Nat.ne_of_lt (Heap.lt_size q)) q
  refine wpAny_bind (wpAny_newList ?_ (by rw [List.length_take, hrl, sizeLine_eq]; omega))
  refine wpAny_pure ?_
  show wpAny _ _ (assignInOrder _ _) _ _ _
  have rv' : Vals xs its.toArray.toList := by rw [List.toList_toArray]; exact rv
  have new : ObjOk X.prog X.w (upd H h₂.objs.size (.lst ((xs.drop i).take (xs.length + 1 - n)))) (h₂.push { cls := .type "list", data := .seq ((its.toArray.toList.drop i).take (xs.length + 1 - n)).toArray }) h₂.objs.size (.lst ((xs.drop i).take (xs.length + 1 - n))) :=
    ⟨by rw [List.length_take, List.length_drop, sizeLine_eq]; omega, _, 0, (rv'.drop i).take _, Heap.get?_push_size _ rfl⟩
  have I1 := I2.laid (t' := tk) (fun b u q => Heap.get?_push_of_some _ q) (Nat.le_refl _) new
  refine h.run pins _ σ _ _ _ Q I1 ?_ (hw _ (I2.hok.fresh (Nat.le_refl _)))
  have r1 : Vals [V.ref h₂.objs.size] [Value.ref h₂.objs.size] := .cons (show RelV (.ref h₂.objs.size) (.ref h₂.objs.size) from rfl) .nil
  exact Vals.app (Vals.app (rv'.take i) r1) ((rv'.drop i).drop _)
end

/-! ### enumerate(a list, start=k) -/
end L2
namespace Zj
open PyProof.Rows hiding St
open PySem PySem.Spec L2 Zk
open Evl (Ex)
section
variable {K : PySem.W.Frag}
/-! ### str(n), int(text) -/
def rStrI : List V → Hp → VK → Prop := fun xs H Q => ∃ i, xs = [.int i] ∧ i.natAbs.log2 < 1920 ∧ Q (.str (toString i)) H
def strD : List D → Option D
  | [.int i] => if i.natAbs.log2 < 1920 then some (.str (toString i)) else none
  | _ => none
theorem rc_str : RC K rStrI strD := fun xs d h O H vs o r Q q => by
  unfold strD at h
  split at h
  · split at h
    · rename_i hl
      cases h
      cases r with
      | cons r rr => cases rr; cases r; exact ⟨_, rfl, hl, rr_fin q (.str _)⟩
    · cases h
  · cases h
def rIntS : List V → Hp → VK → Prop := fun xs H Q => ∃ a n, xs = [.str a] ∧ PySem.intText? a = some n ∧ a.length ≤ 640 ∧ Q (.int n) H
def intSD : List D → Option D
  | [.str s] => if s.length ≤ 640 then (PySem.intText? s).map .int else none
  | _ => none
theorem rc_intS : RC K rIntS intSD := fun xs d h O H vs o r Q q => by
  unfold intSD at h
  split at h
  · rename_i s
    split at h
    · rename_i hl
      cases e : PySem.intText? s with
      | none => rw [e] at h; cases h
      | some n =>
        rw [e] at h
        cases h
        cases r with
        | cons r rr => cases rr; cases r; exact ⟨_, n, rfl, e, hl, rr_fin q (.int _)⟩
    · cases h
  · cases h
/-! ### methods of texts -/
def RM0 (K : PySem.W.Frag) (r : V → List V → Hp → VK → Prop) (f : Str → Option D) : Prop := ∀ s d, f s = some d → ∀ (O : Addr → Prop) H, (∀ a, O a → Lv H a) → ∀ Q : VK, (∀ w H', Ex H H' → Rp K O H' w d → Q w H') → r (.str s) [] H Q
def RM1 (K : PySem.W.Frag) (r : V → List V → Hp → VK → Prop) (f : Str → D → Option D) : Prop := ∀ s y d, f s y = some d → ∀ (O : Addr → Prop) H u, (∀ a, O a → Lv H a) → Rp K O H u y → ∀ Q : VK, (∀ w H', Ex H H' → Rp K O H' w d → Q w H') → r (.str s) [u] H Q
def dM0 (f : Str → Option D) (a : DF) : DF := fun g => (a g).bind fun x => match x with
  | .str s => f s
  | _ => none
def dM1 (f : Str → D → Option D) (a b : DF) : DF := fun g => (a g).bind fun x => match x with
  | .str s => (b g).bind fun y => f s y
  | _ => none
theorem er_m0 {r : V → List V → Hp → VK → Prop} {f : Str → Option D} {to : TE} {a : DF} (hr : RM0 K r f) (ha : ER K to a) : ER K (tM0 r to) (dM0 f a) := fun g d h H0 Oc pins ow σ H R Q q => by
  unfold dM0 at h
  cases ea : a g with
  | none => rw [ea] at h; cases h
  | some x =>
    rw [ea, Option.bind_some] at h
    split at h
    · rename_i s
      refine ha g _ ea H0 Oc pins ow σ H R _ fun v H1 e1 r1 => ?_
      cases r1
      exact ⟨⟨_, rfl⟩, hr s d h (OO Oc ow) H1 (R.grow e1).oo Q fun w H' e' r' => q w H' (e1.trans e') r'⟩
    · cases h
theorem er_m1 {r : V → List V → Hp → VK → Prop} {f : Str → D → Option D} {to te : TE} {a b : DF} (hr : RM1 K r f) (ha : ER K to a) (hb : ER K te b) : ER K (tM1 r to te) (dM1 f a b) := fun g d h H0 Oc pins ow σ H R Q q => by
  unfold dM1 at h
  cases ea : a g with
  | none => rw [ea] at h; cases h
  | some x =>
    rw [ea, Option.bind_some] at h
    split at h
    · rename_i s
      cases eb : b g with
      | none => rw [eb] at h; cases h
      | some y =>
        rw [eb, Option.bind_some] at h
        refine ha g _ ea H0 Oc pins ow σ H R _ fun v H1 e1 r1 => ?_
        cases r1
        refine ⟨⟨_, rfl⟩, hb g y eb H0 Oc pins ow σ H1 (R.grow e1) _ fun w H2 e2 r2 => ?_⟩
        exact hr s y d h (OO Oc ow) H2 w ((R.grow e1).grow e2).oo r2 Q fun w H' e' r' => q w H' ((e1.trans e2).trans e') r'
    · cases h
def asStrs : List D → Option (List Str)
  | [] => some []
  | .str s :: ds => (asStrs ds).map (s :: ·)
  | _ => none
theorem asStrs_vs {O : Addr → Prop} {H : Hp} : ∀ {ds : List D} {vs : List V} {ns : List Str}, RpA K O H vs ds → asStrs ds = some ns → vs = ns.map V.str
  | [], _, ns, .nil, h => by cases h; rfl
  | d :: ds, _, ns, .cons r rr, h => by
    cases r <;> first | (cases h; done) | skip
    unfold asStrs at h
    cases e : asStrs ds with
    | none => rw [e] at h; cases h
    | some ms =>
      rw [e] at h
      cases h
      rw [List.map_cons, asStrs_vs rr e]
def sL (ss : List Str) : List D := ss.map D.str
theorem RpA.ofStrs {O : Addr → Prop} {H : Hp} : ∀ (ns : List Str), RpA K O H (ns.map V.str) (sL ns)
  | [] => .nil
  | n :: ns => .cons (.str n) (RpA.ofStrs ns)
def isdigitD (s : Str) : Option D := some (.bl (Txt.isdigit s))
abbrev rIsdigit : V → List V → Hp → VK → Prop := fun x xs H Q => ∃ a, x = .str a ∧ xs = [] ∧ True ∧ Q (.bl (Txt.isdigit a)) H
theorem rm_isdigit : RM0 K rIsdigit isdigitD := fun s d h O H o Q q => by
  cases h
  exact ⟨s, rfl, rfl, trivial, rr_fin q (.bl _)⟩
def startsD (s : Str) : D → Option D
  | .str b => some (.bl (Txt.startswith s b))
  | _ => none
abbrev rStarts : V → List V → Hp → VK → Prop := fun x xs H Q => ∃ a b, x = .str a ∧ xs = [.str b] ∧ Q (.bl (Txt.startswith a b)) H
theorem rm_starts : RM1 K rStarts startsD := fun s y d h O H u o r Q q => by
  unfold startsD at h
  split at h
  · cases h; cases r
    exact ⟨s, _, rfl, rfl, rr_fin q (.bl _)⟩
  · cases h
def splitD (s : Str) : D → Option D
  | .str b => if (b.length == 0) = false ∧ s.length ≤ 100000 then some (.lst (sL (Txt.split s b))) else none
  | _ => none
abbrev rSplit : V → List V → Hp → VK → Prop := fun x xs H Q => ∃ a b, x = .str a ∧ xs = [.str b] ∧ (b.length == 0) = false ∧ a.length + 2 ≤ sizeLine ∧ rNewStrs (Txt.split a b) H Q
theorem rm_split : RM1 K rSplit splitD := fun s y d h O H u o r Q q => by
  unfold splitD at h
  split at h
  · split at h
    · rename_i hb
      cases h; cases r
      exact ⟨s, _, rfl, rfl, hb.1, by rw [sizeLine_eq]; omega, rr_newL o q (RpA.ofStrs _)⟩
    · cases h
  · cases h
def partD (s : Str) : D → Option D
  | .str b => if (b.length == 0) = false ∧ s.length ≤ 100000 then some (.tup [.str (Txt.partition s b).1, .str (Txt.partition s b).2.1, .str (Txt.partition s b).2.2]) else none
  | _ => none
abbrev rPart : V → List V → Hp → VK → Prop := fun x xs H Q => ∃ a b, x = .str a ∧ xs = [.str b] ∧ (b.length == 0) = false ∧ a.length ≤ sizeLine ∧ ∀ p, H p = none → Q (.ref p) (upd H p (.tup [.str (Txt.partition a b).1, .str (Txt.partition a b).2.1, .str (Txt.partition a b).2.2]))
theorem rm_part : RM1 K rPart partD := fun s y d h O H u o r Q q => by
  unfold partD at h
  split at h
  · split at h
    · rename_i hb
      cases h; cases r
      exact ⟨s, _, rfl, rfl, hb.1, Evl.sz_of hb.2, rr_newT o q (.cons (.str _) (.cons (.str _) (.cons (.str _) .nil)))⟩
    · cases h
  · cases h
def joinD (s : Str) : D → Option D
  | .lst ds => (asStrs ds).bind fun ys => if (ys.map (·.length)).sum + ys.length * s.length ≤ 100000 then some (.str (Txt.join s ys)) else none
  | .tup ds => (asStrs ds).bind fun ys => if (ys.map (·.length)).sum + ys.length * s.length ≤ 100000 then some (.str (Txt.join s ys)) else none
  | _ => none
abbrev rJoinT (K : PySem.W.Frag) : V → List V → Hp → VK → Prop := fun x xs H Q => ∃ a p, ∃ ys : List Str, x = .str a ∧ xs = [.ref p] ∧ (SqL K H p (ys.map V.str) ∨ SqT K H p (ys.map V.str)) ∧
      (ys.map (·.length)).sum + ys.length * a.length ≤ 16777216 ∧ Q (.str (Txt.join a ys)) H
theorem rm_join : RM1 K (rJoinT K) joinD := fun s y d h O H u o r Q q => by
  unfold joinD at h
  split at h
  · rename_i ds
    cases e : asStrs ds with
    | none => rw [e] at h; cases h
    | some ys =>
      rw [e, Option.bind_some] at h
      split at h
      · rename_i hl
        cases h
        cases r with
        | lst n e' r =>
          rw [asStrs_vs r e] at e'
          exact ⟨s, _, ys, rfl, rfl, .inl (.of e'), by omega, rr_fin q (.str _)⟩
      · cases h
  · rename_i ds
    cases e : asStrs ds with
    | none => rw [e] at h; cases h
    | some ys =>
      rw [e, Option.bind_some] at h
      split at h
      · rename_i hl
        cases h
        cases r with
        | tup n e' r =>
          rw [asStrs_vs r e] at e'
          exact ⟨s, _, ys, rfl, rfl, .inr (.of e'), by omega, rr_fin q (.str _)⟩
      · cases h
  · cases h
/-! ### in, order, slices -/
def rNinT : R2 := fun x y H Q => ∃ i j, x = .str i ∧ y = .str j ∧ Q (.bl (!(!(Builtin.Str.occurrences j i 0 j.length 1).isEmpty))) H
def rLeT : R2 := fun x y H Q => ∃ i j, x = .str i ∧ y = .str j ∧ Q (.bl (!decide (j.cps.toList < i.cps.toList))) H
def rLtT : R2 := fun x y H Q => ∃ i j, x = .str i ∧ y = .str j ∧ Q (.bl (decide (i.cps.toList < j.cps.toList))) H
def onT (f : Str → Str → Bool) : D → D → Option D
  | .str i, .str j => some (.bl (f i j))
  | _, _ => none
def ninTf (i j : Str) : Bool := !(!(Builtin.Str.occurrences j i 0 j.length 1).isEmpty)
def leTf (i j : Str) : Bool := !decide (j.cps.toList < i.cps.toList)
def ltTf (i j : Str) : Bool := decide (i.cps.toList < j.cps.toList)
theorem rr_onT {r : R2} {f : Str → Str → Bool} (hr : ∀ i j H (Q : VK), Q (.bl (f i j)) H → r (.str i) (.str j) H Q) : RR K r (onT f) := fun x y d h O H v u o rx ry Q q => by
  unfold onT at h
  split at h
  · cases h; cases rx; cases ry
    exact hr _ _ H Q (rr_fin q (.bl _))
  · cases h
theorem rr_ninT : RR K rNinT (onT ninTf) := rr_onT fun i j H Q q => ⟨i, j, rfl, rfl, q⟩
theorem rr_leT : RR K rLeT (onT leTf) := rr_onT fun i j H Q q => ⟨i, j, rfl, rfl, q⟩
theorem rr_ltT : RR K rLtT (onT ltTf) := rr_onT fun i j H Q q => ⟨i, j, rfl, rfl, q⟩
def slSD : D → Option Int → Option Int → Option D
  | .str s, lo, hi => if s.length ≤ 100000 then some (.str (Txt.slice s lo hi)) else none
  | _, _, _ => none
def dSlS (a : DF) (lo hi : DOF) : DF := fun g => (a g).bind fun x => (lo g).bind fun l => (hi g).bind fun h => slSD x l h
theorem er_slS {te : TE} {tl th : TO} {a : DF} {lo hi : DOF} (ha : ER K te a) (hl : OR K tl lo) (hh : OR K th hi) : ER K (tSl C8.rSlX te tl th) (dSlS a lo hi) := fun g d h H0 Oc pins ow σ H R Q q => by
  unfold dSlS at h
  cases ea : a g with
  | none => rw [ea] at h; cases h
  | some x =>
    rw [ea, Option.bind_some] at h
    cases el : lo g with
    | none => rw [el] at h; cases h
    | some l =>
      rw [el, Option.bind_some] at h
      cases eh : hi g with
      | none => rw [eh] at h; cases h
      | some u =>
        rw [eh, Option.bind_some] at h
        refine ha g x ea H0 Oc pins ow σ H R _ fun v H1 e1 r1 => ?_
        refine hl g l el H0 Oc pins ow σ H1 (R.grow e1) _ fun H2 e2 => ?_
        refine hh g u eh H0 Oc pins ow σ H2 ((R.grow e1).grow e2) _ fun H3 e3 => ?_
        unfold slSD at h
        split at h
        · split at h
          · rename_i hz
            cases h
            cases r1
            exact ⟨_, rfl, Evl.sz_of hz, q _ H3 ((e1.trans e2).trans e3) (.str _)⟩
          · cases h
        · cases h
/-! ### f-strings -/
inductive JR (K : PySem.W.Frag) : List TE → List DF → Prop where
  | nil : JR K [] []
  | cons {t : TE} {a : DF} {ts : List TE} {as : List DF} (h : ER K t a) (r : JR K ts as) : JR K (t :: ts) (a :: as)
/-! ### a starred target -/
def sStar (a : DF) (n i : Nat) (r : DGFs) : SF := fun g => (a g).bind fun x => match x with
  | .lst ds => if n ≤ ds.length + 1 ∧ ds.length ≤ 16384 then (r (ds.take i ++ [.lst ((ds.drop i).take (ds.length + 1 - n))] ++ (ds.drop i).drop (ds.length + 1 - n)) g).map .nx else none
  | _ => none
theorem sr_star {te : TE} {a : DF} {n i : Nat} {u : TGs} {r : DGFs} (ha : ER K te a) (hu : GRs' K u r) : SR K (tAsg te (gStar K n i u)) (sStar a n i r) := fun g out h H0 Oc pins ow σ H R De P => by
  unfold sStar at h
  cases ea : a g with
  | none => rw [ea] at h; cases h
  | some x =>
    rw [ea, Option.bind_some] at h
    split at h
    · rename_i ds
      split at h
      · rename_i hn
        cases er : r (ds.take i ++ [.lst ((ds.drop i).take (ds.length + 1 - n))] ++ (ds.drop i).drop (ds.length + 1 - n)) g with
        | none => rw [er] at h; cases h
        | some g' =>
          rw [er] at h
          cases h
          refine ha g _ ea H0 Oc pins ow σ H R _ fun v H1 e1 r1 => ?_
          cases r1 with
          | @lst b xs _ nb e rr =>
            have hl := rr.len
            refine ⟨b, xs, rfl, .of e, by omega, by omega, fun p hp => ?_⟩
            have R1 := R.grow e1
            have ex := Evl.Ex.new (o := .lst ((xs.drop i).take (xs.length + 1 - n))) hp
            have r2 : RpA K (OO Oc ow) (upd H1 p (.lst ((xs.drop i).take (xs.length + 1 - n)))) (xs.take i ++ [.ref p] ++ (xs.drop i).drop (xs.length + 1 - n)) (ds.take i ++ [.lst ((ds.drop i).take (ds.length + 1 - n))] ++ (ds.drop i).drop (ds.length + 1 - n)) := by
              rw [← hl]
              refine (((rr.ex ex).take i).app (.one ?_)).app (((rr.ex ex).drop i).drop _)
              exact .lst (new_not R1.oo hp) upd_same (((rr.ex ex).drop i).take _)
            exact hu _ g g' er H0 Oc pins ow σ _ _ (R1.grow ex) r2 _ fun ow' σ' _ R' => P _ _ _ R'
      · cases h
    · cases h
/-! ### enumerate(a list, start=k) -/
end
/-! ### a def that returns (list of its own, value): the data is (value, list) all the same -/
/-- what a body that ends so does -/
abbrev SF2 : Type := Gm → Option (D × D)
section
variable {K : PySem.W.Frag} {ts tu : TS} {s : SF} {u : SF2}
end
section
variable {P : Program} {w : World} {K : PySem.W.Frag} {mg : Str → Option Value} {base : Heap}
end
end Zj
end

section
set_option Elab.async false
set_option linter.all false
set_option maxRecDepth 100000
set_option autoImplicit false
set_option maxHeartbeats 2000000
/-! A text times a number; suites of a try that go on behind it. -/
namespace L2
open PySem PySem.Spec PyProof.Rows
end L2
namespace Zj
open PyProof.Rows hiding St
open PySem PySem.Spec L2 Zk
open Evl (Ex)
section
variable {K : PySem.W.Frag}
end
/-! ### try: a suite that may go on -/
section
variable {K : PySem.W.Frag} {i : Nat} {c : Value} {x : Zr.XF} {s : SF} {hd : Addr → Addr → SF} {tb : WX → TS} {tsD : Addr → Addr → TS} {Wout : WX} {D : Addr} {g : Gm}
end
end Zj
/-! ### defs called within a suite that catches (they do not raise) -/
namespace L2W
open PySem PySem.Spec PyProof.Rows L2 L2H
abbrev St := L2.St
/-- p's object is the exception that is handled -/
def Hot0 (A : Around) (p : Addr × Obj) : Prop := A.handled = some (.ref p.1) ∧ ∃ vs : Array Value, p.2.data = .fields vs
structure FnW (P : Program) (w : World) (K : PySem.W.Frag) (mg : Str → Option Value) (base : Heap) (CX : CXT) (k : Nat) (f : Addr) (fd : FuncData) (ps : List Str) (sp : Sp) : Prop where
  len : ∀ vs H Q E, sp vs H Q E → vs.length = ps.length
  run : ∀ (A : Around) (outer : List Env) (s : Shared) (H : Hp) (args : Args) (us : List Value) (vs : List V) (Q : VK) (E : XK) (p : Addr × Obj), RoomH k A → Hot0 A p → PinOk outer H s p → Env0 P w K mg base A outer s H → BindsTo s fd args (ps.zip us) → Vals vs us → sp vs H Q E →
    codeAny (model P w) A (.call (.ref f) args) (CR CX outer P w H s Q E) s
section
variable {X : Cx} {CX : CXT} {k : Nat} {f C : Addr} {fd : FuncData} {ps : List Str} {sp : Sp} {E : XK} {x m : Str} {q pos apos : Pos} {e o : Expr} {es : List Expr} {ta : TE} {t : TA}
end
end L2W
namespace Zj
open PyProof.Rows hiding St
open PySem PySem.Spec L2 L2H L2W Zk
open Evl (Ex)
section
variable {P : Program} {w : World} {K : PySem.W.Frag} {mg : Str → Option Value} {base : Heap}
end
end Zj
end

section
set_option Elab.async false
set_option linter.all false
set_option maxRecDepth 100000
set_option autoImplicit false
set_option maxHeartbeats 2000000
/-! match with `_` among the captures; list.index. -/
namespace Zm
open PySem L2 Zk PyProof.Rows
open Evl (Ex)
section
variable {X : Cx} {pins : List (Addr × Obj)} {σ : L2.St} {H : Hp} {s : Shared}
/-- captures, or `_` -/
inductive CapsW (X : Cx) : List Pattern → List (Option Nat) → Prop
  | nil : CapsW X [] []
  | cons {x : Str} {p : Pos} {j : Nat} {ps : List Pattern} {js : List (Option Nat)} (hj : X.N[j]? = some x) (hl : X.env.scope.names.lookup x = some .local) (h : CapsW X ps js) : CapsW X (.MatchAs none (some x) p :: ps) (some j :: js)
  | wild {p : Pos} {ps : List Pattern} {js : List (Option Nat)} (h : CapsW X ps js) : CapsW X (.MatchAs none none p :: ps) (none :: js)
theorem CapsW.len : ∀ {ps : List Pattern} {js : List (Option Nat)}, CapsW X ps js → ps.length = js.length
  | _, _, .nil => rfl
  | _, _, .cons _ _ h => congrArg (· + 1) h.len
  | _, _, .wild h => congrArg (· + 1) h.len
inductive PMsW (X : Cx) : List MatchCase → List (Str × List (Option Nat) × TS) → Prop
  | nil : PMsW X [] []
  | cons {tag : Str} {kk : Nat} {pp p1 pos : Pos} {caps : List Pattern} {js : List (Option Nat)} {body : List Stmt} {ts : TS} {rest : List MatchCase} {cs : List (Str × List (Option Nat) × TS)}
    (ck : CapsW X caps js) (hb : PSs X body ts) (h : PMsW X rest cs) : PMsW X (⟨.MatchSequence (.MatchValue (.Constant (.str tag) kk pp) p1 :: caps) pos, none, body⟩ :: rest) ((tag, js, ts) :: cs)
end
/-! ### the same on data -/
section
variable {K : PySem.W.Frag}
abbrev CseW := Str × List (Option Nat) × SF
inductive SRsW (K : PySem.W.Frag) : List (Str × List (Option Nat) × TS) → List CseW → Prop
  | nil : SRsW K [] []
  | cons {tag : Str} {js : List (Option Nat)} {ts : TS} {s : SF} {cs : List (Str × List (Option Nat) × TS)} {ds : List CseW} (h : SR K ts s) (r : SRsW K cs ds) : SRsW K ((tag, js, ts) :: cs) ((tag, js, s) :: ds)
end
end Zm
namespace Zk2
open PySem Zk L2 PyProof.Rows
open Evl (Ex)
section
variable {X : Cx}
def rIdxP (K : PySem.W.Frag) : V → List V → Hp → VK → Prop := fun x xs H Q => ∃ (a : Addr) (ys : List V) (y : V) (d : PyData) (ds : List PyData) (j : Nat), x = V.ref a ∧ xs = [y] ∧ SqL K H a ys ∧ L2.DpAll K H ys ds ∧ L2.Dp K H y d ∧ PyData.canLayAll0 ds = true ∧ small d = true ∧
  ds.length ≤ 1000 ∧ (∃ z, ds[j]? = some z ∧ PyData.eqv z d = true) ∧ (∀ i z, i < j → ds[i]? = some z → PyData.eqv z d = false) ∧ Q (.int (j : Int)) H
theorem mt_idxP (hu : X.A.units + 64 < cLine) : MtR X "list.index" (rIdxP X.K) := by
  intro pins s σ H x xs v us Q I rx rxs h
  obtain ⟨a, ys, y, d, ds, j, rfl, rfl, hs, hys, hy, cl, sd, hl, ⟨z0, hz0, hz1⟩, hno, q⟩ := h
  cases rx
  cases rxs with
  | cons ry rt =>
    rename_i uy ut
    cases rt
    obtain ⟨its, rv, ⟨⟨cls, dd, data, sl⟩, n, ho, hc, hdn, hd⟩, hlen⟩ := I.list hs
    simp only at hc hd
    subst hc hd
    obtain ⟨as, r1⟩ := L2.Dp.reads I d y uy hy ry
    obtain ⟨bs, r2⟩ := L2.Dp.readsAll I ds ys its hys rv
    have em : its.map (SeqAt.readOf s.heap) = ds := (SeqAt.readsAll_map ds its bs cl r2)
    have el : its.length = ds.length := by rw [← em, List.length_map]
    have hj : j < its.length := by rw [el]; exact (List.getElem?_eq_some_iff.mp hz0).1
    have at_ : ∀ i z, ds[i]? = some z → ∀ hi : i < its.length, SeqAt.readOf s.heap its[i] = z := fun i z hz hi => by
      rw [← em, List.getElem?_map, List.getElem?_eq_getElem hi] at hz
      exact Option.some.inj hz
    refine call_meets PySem.F.slot_list_index ⟨_, ho, rfl⟩ PySem.F.entry_list_index (PySem.F.args_list_index_2 _ _)
      (SeqAt.list_indexAt a its.toArray n dd sl uy (fun z => PyData.eqv (SeqAt.readOf s.heap z) d) j (by simpa using hj) (by omega) ?_ ?_) ⟨ho, SeqAt.items_eqAt (by simpa using r2) r1 cl (small_lay sd) (small_room sd hu), ?_⟩
    · have e0 : its.toArray[j]'(by simpa using hj) = its[j] := by simp
      rw [e0, at_ j z0 hz0 hj]
      exact hz1
    · intro m hm hmj
      have hm' : m < its.length := by simpa using hm
      have e0 : its.toArray[m]'hm = its[m] := by simp
      have hmd : m < ds.length := by rw [← el]; exact hm'
      rw [e0, at_ m ds[m] (List.getElem?_eq_getElem hmd) hm']
      exact hno m _ hmj (List.getElem?_eq_getElem hmd)
    exact ⟨.int _, H, I.tok _, ⟨_, rfl⟩, q⟩
end
def idxD (y x : D) : Option D := match y with
  | .lst ds => (toP x).bind fun d => (toPs ds).bind fun ps => if small d && PyData.canLayAll0 ps && decide (ps.length ≤ 1000) then (ps.findIdx? fun z => PyData.eqv z d).map fun j => .int (j : Int) else none
  | _ => none
section
variable {K : PySem.W.Frag}
theorem er_index {ta tb : TE} {a b : DF} (ha : ER K ta a) (hb : ER K tb b) : ER K (tBM K "list" (rIdxP K) ta (tCons tb tNil)) (d2 idxD a b) := fun g d h H0 Oc pins ow σ H R Q q => by
  unfold d2 at h
  cases ea : a g with
  | none => rw [ea] at h; cases h
  | some x =>
    rw [ea] at h
    cases eb : b g with
    | none => simp [eb] at h
    | some y =>
      simp only [Option.bind_some, eb] at h
      unfold idxD at h
      split at h
      · rename_i ds
        cases h1 : toP y with
        | none => rw [h1] at h; cases h
        | some p =>
          rw [h1, Option.bind_some] at h
          cases h2 : toPs ds with
          | none => rw [h2] at h; cases h
          | some ps =>
            rw [h2, Option.bind_some] at h
            split at h
            · rename_i c
              rw [Bool.and_eq_true, Bool.and_eq_true] at c
              cases hf : ps.findIdx? fun z => PyData.eqv z p with
              | none => rw [hf] at h; cases h
              | some j =>
                rw [hf] at h
                cases h
                obtain ⟨hlt, hat, hbf⟩ := List.findIdx?_eq_some_iff_getElem.mp hf
                refine ha g _ ea H0 Oc pins ow σ H R _ fun v H1 e1 r1 => ?_
                cases r1 with
                | @lst p0 xs _ n e r =>
                  refine ⟨.inl ⟨rfl, _, .of e⟩, ?_⟩
                  refine hb g y eb H0 Oc pins ow σ H1 (R.grow e1) _ fun w H2 e2 r2 => ?_
                  have r' : Rp K (OO Oc ow) H2 (.ref p0) (.lst ds) := (Rp.lst n e r).ex e2
                  cases r' with
                  | lst n' e' r'' => exact ⟨p0, _, w, p, ps, j, rfl, rfl, .of e', dps_of r'' h2, dp_of r2 h1, c.1.2, c.1.1, of_decide_eq_true c.2, ⟨_, List.getElem?_eq_getElem hlt, hat⟩, (fun i z hi hz => by
                      have hi' : i < ps.length := (List.getElem?_eq_some_iff.mp hz).1
                      have := hbf i hi
                      rw [List.getElem?_eq_getElem hi'] at hz
                      cases hz
                      exact Bool.eq_false_iff.mpr this), q _ H2 (e1.trans e2) (.int _)⟩
            · cases h
      · cases h
end
end Zk2
end

section
set_option Elab.async false
set_option linter.all false
set_option maxRecDepth 100000
set_option autoImplicit false
set_option maxHeartbeats 4000000
/-! Methods that raise before they change anything. -/
namespace Zq6
open PyProof.Rows hiding St
open PySem PySem.Spec L2 Zk Zr
section
variable {X : Cx} {CX : CXT} {k : Nat} {f C : Addr} {fd : FuncData} {ps : List Str} {sp : Sp} {E : L2.St → XK} {m : Str} {apos pos : Pos} {e o : Expr} {es : List Expr} {ta : TA} {te : TE} {pl : Sem Bool}
end
section
variable {K : PySem.W.Frag} {W : WX} {ta : TA} {te : TE} {a : DAF} {o : DF} {x : XF} {tg : TG} {C : Addr} {m : Str} {n : Nat} {xg : List D → Option XV}
theorem er_no : ER K te (fun _ => none) := fun g d h => by cases h
end
end Zq6
end

section
set_option Elab.async false
set_option linter.all false
set_option maxRecDepth 100000
set_option autoImplicit false
set_option maxHeartbeats 4000000
/-! An object lent to a def that changes it and answers something; `if x.m(..) is not None or c`. -/
namespace Zq7
open PyProof.Rows hiding St
open PySem PySem.Spec L2 Zk
open Evl (Ex)
open Zq5
abbrev LF : Type := Gm → Option (D × Gm)
section
variable {K : PySem.W.Frag} {ts tu : TS} {s u : SF} {l : LF} {te : TE} {a : DF} {tt : TT} {c : DTF}
/-! ### a < b for pairs of ints -/
/-- x + b, x a list of one's own -/
def dAddO (i : Nat) (b : DF) : DF := fun g => match g[i]? with
  | some (some (.o (.lst ds))) => (b g).bind fun y => addD (.lst ds) y
  | _ => none
theorem er_addO (i : Nat) {tb : TE} {b : DF} (hb : ER K tb b) : ER K (tOp rAddA (tVar i) tb) (dAddO i b) := fun g d h H0 Oc pins ow σ H R Q q => by
  unfold dAddO at h
  split at h
  · rename_i ds hd
    cases eb : b g with
    | none => rw [eb] at h; cases h
    | some y =>
      rw [eb, Option.bind_some] at h
      obtain ⟨p, h1, h2, xs, h3, h4⟩ := R.own i _ hd
      refine ⟨.ref p, h2, hb g y eb H0 Oc pins ow σ H R _ fun u H1 e1 r1 => ?_⟩
      cases y with
      | lst es =>
        unfold addD at h
        simp only at h
        split at h
        · rename_i hl
          cases h
          cases r1 with
          | lst n' e' r' => exact .inr (.inr ⟨_, _, _, _, rfl, rfl, e1 _ _ h3, e', by rw [h4.len, r'.len]; exact Evl.sz_of hl, rr_newL (R.grow e1).oo (fun w H2 e2 r2 => q w H2 (e1.trans e2) r2) ((h4.ex e1).app r')⟩)
        · cases h
      | _ =>
        unfold addD at h
        cases h
  · cases h
end
end Zq7
end

section
set_option Elab.async false
set_option linter.all false
set_option maxRecDepth 100000
set_option autoImplicit false
set_option maxHeartbeats 4000000
/-! zip of two lists, or of two tuples, in a for or a comprehension. -/
namespace Zq9
open PySem PySem.Spec L2 Zk
def zipD : List D → List D → List D
  | x :: xs, y :: ys => .tup [x, y] :: zipD xs ys
  | _, _ => []
theorem zipD_len : ∀ xs ys : List D, (zipD xs ys).length = min xs.length ys.length
  | [], _ => by unfold zipD; simp
  | _ :: _, [] => rfl
  | x :: xs, y :: ys => by
    show (zipD xs ys).length + 1 = _
    rw [zipD_len xs ys, List.length_cons, List.length_cons]
    omega
theorem zipD_get : ∀ (xs ys : List D) (i : Nat) (e : D), (zipD xs ys)[i]? = some e → ∃ x y, xs[i]? = some x ∧ ys[i]? = some y ∧ e = .tup [x, y]
  | [], _, i, e, h => by unfold zipD at h; cases h
  | _ :: _, [], i, e, h => by cases h
  | x :: xs, y :: ys, 0, e, h => ⟨x, y, rfl, rfl, (Option.some.inj h).symm⟩
  | x :: xs, y :: ys, i + 1, e, h => by
    have h : (zipD xs ys)[i]? = some e := h
    obtain ⟨a, b, h1, h2, h3⟩ := zipD_get xs ys i e h
    exact ⟨a, b, h1, h2, h3⟩
def dZip (a : DAF) : DIF := fun g => (a g).bind fun zs => match zs with
  | [.lst xs, .lst ys] => some (zipD xs ys)
  | [.tup xs, .tup ys] => some (zipD xs ys)
  | _ => none
theorem wk_zip {K : PySem.W.Frag} {a b : Addr} {ds es : List D} : Wk K (Itz K a b) (zipD ds es) [(.ref a, .lst ds), (.ref b, .lst es)] where
  go := fun O i H hi h _ => by
    have r := h (.ref a, .lst ds) (by simp)
    have s := h (.ref b, .lst es) (by simp)
    rw [zipD_len] at hi
    cases r with
    | @lst _ xs _ n e r =>
      cases s with
      | @lst _ ys _ n2 e2 s =>
        have h1 : i < xs.length := by have := r.len; omega
        have h2 : i < ys.length := by have := s.len; omega
        exact ⟨xs, ys, xs[i], ys[i], .of e, .of e2, List.getElem?_eq_getElem h1, List.getElem?_eq_getElem h2⟩
  yld := fun O i H w H' d o h y he => by
    have r := h (.ref a, .lst ds) (by simp)
    have s := h (.ref b, .lst es) (by simp)
    cases r with
    | @lst _ xs _ n e r =>
      cases s with
      | @lst _ ys _ n2 e2 s =>
        obtain ⟨T, x, y', rfl, hT, rfl, f1, f2⟩ := y
        obtain ⟨p, q, g1, g2, rfl⟩ := zipD_get _ _ _ _ he
        obtain ⟨u, u1, u2⟩ := r.get g1
        obtain ⟨v, v1, v2⟩ := s.get g2
        have z1 := f1 xs (.of e)
        have z2 := f2 ys (.of e2)
        rw [u1] at z1
        rw [v1] at z2
        cases z1
        cases z2
        have ex := Evl.Ex.new (o := .tup [x, y']) hT
        exact ⟨ex, .tup (fun z => (o T z).1 hT) upd_same (.cons (u2.ex ex) (.cons (v2.ex ex) .nil))⟩
  stop := fun O H h _ => by
    have r := h (.ref a, .lst ds) (by simp)
    have s := h (.ref b, .lst es) (by simp)
    cases r with
    | @lst _ xs _ n e r =>
      cases s with
      | @lst _ ys _ n2 e2 s =>
        refine ⟨xs, ys, .of e, .of e2, ?_⟩
        have h1 := r.len
        have h2 := s.len
        rw [zipD_len]
        omega
theorem wk_zipT {K : PySem.W.Frag} {a b : Addr} {ds es : List D} : Wk K (RZ.ItzT K a b) (zipD ds es) [(.ref a, .tup ds), (.ref b, .tup es)] where
  go := fun O i H hi h _ => by
    have r := h (.ref a, .tup ds) (by simp)
    have s := h (.ref b, .tup es) (by simp)
    rw [zipD_len] at hi
    cases r with
    | @tup _ xs _ n e r =>
      cases s with
      | @tup _ ys _ n2 e2 s =>
        have h1 : i < xs.length := by have := r.len; omega
        have h2 : i < ys.length := by have := s.len; omega
        exact ⟨xs, ys, xs[i], ys[i], .of e, .of e2, List.getElem?_eq_getElem h1, List.getElem?_eq_getElem h2⟩
  yld := fun O i H w H' d o h y he => by
    have r := h (.ref a, .tup ds) (by simp)
    have s := h (.ref b, .tup es) (by simp)
    cases r with
    | @tup _ xs _ n e r =>
      cases s with
      | @tup _ ys _ n2 e2 s =>
        obtain ⟨T, x, y', rfl, hT, rfl, f1, f2⟩ := y
        obtain ⟨p, q, g1, g2, rfl⟩ := zipD_get _ _ _ _ he
        obtain ⟨u, u1, u2⟩ := r.get g1
        obtain ⟨v, v1, v2⟩ := s.get g2
        have z1 := f1 xs (.of e)
        have z2 := f2 ys (.of e2)
        rw [u1] at z1
        rw [v1] at z2
        cases z1
        cases z2
        have ex := Evl.Ex.new (o := .tup [x, y']) hT
        exact ⟨ex, .tup (fun z => (o T z).1 hT) upd_same (.cons (u2.ex ex) (.cons (v2.ex ex) .nil))⟩
  stop := fun O H h _ => by
    have r := h (.ref a, .tup ds) (by simp)
    have s := h (.ref b, .tup es) (by simp)
    cases r with
    | @tup _ xs _ n e r =>
      cases s with
      | @tup _ ys _ n2 e2 s =>
        refine ⟨xs, ys, .of e, .of e2, ?_⟩
        have h1 := r.len
        have h2 := s.len
        rw [zipD_len]
        omega
theorem ir_zip {K : PySem.W.Frag} {ta : TA} {a : DAF} (ha : AR K ta a) : IR K (RZ.iZipA K ta) (dZip a) := fun g ds h H0 Oc pins ow σ H R Q q => by
  unfold dZip at h
  cases ea : a g with
  | none => rw [ea] at h; cases h
  | some x =>
    rw [ea] at h
    simp only [Option.bind_some] at h
    split at h
    · cases h
      refine ha g _ ea H0 Oc pins ow σ H R _ fun vs H1 e1 r1 => ?_
      cases r1 with
      | cons r rr =>
        cases rr with
        | cons s ss =>
          have r0 := r
          have s0 := s
          cases ss
          cases r with
          | @lst a xs _ n e r =>
            cases s with
            | @lst b ys _ n2 e2 s =>
              exact ⟨a, b, xs, ys, rfl, .inl ⟨.of e, .of e2, q _ H1 _ e1 (fun p hp => by
                rcases List.mem_cons.mp hp with z | z
                · rw [z]; exact r0
                · rw [List.mem_singleton.mp z]; exact s0) wk_zip⟩⟩
    · cases h
      refine ha g _ ea H0 Oc pins ow σ H R _ fun vs H1 e1 r1 => ?_
      cases r1 with
      | cons r rr =>
        cases rr with
        | cons s ss =>
          have r0 := r
          have s0 := s
          cases ss
          cases r with
          | @tup a xs _ n e r =>
            cases s with
            | @tup b ys _ n2 e2 s =>
              exact ⟨a, b, xs, ys, rfl, .inr ⟨.of e, .of e2, q _ H1 _ e1 (fun p hp => by
                rcases List.mem_cons.mp hp with z | z
                · rw [z]; exact r0
                · rw [List.mem_singleton.mp z]; exact s0) wk_zipT⟩⟩
    · cases h
/-! ### for a, b, c in a comprehension -/
theorem grc_tup3 {K : PySem.W.Frag} {i j l : Nat} {vs : List Nat} (hi : i ∈ vs) (hj : j ∈ vs) (hl : l ∈ vs) : GRc K (gTup K 3 (gCons (gName i) (gCons (gName j) (gCons (gName l) gNil)))) (dgTup 3 (dgCons (dName i) (dgCons (dName j) (dgCons (dName l) dgNil)))) vs := fun d g g' hn h H0 Oc pins ow σ H v R r Q q => by
  unfold dgTup at h
  split at h
  · rename_i ds
    split at h
    · rename_i hz
      match ds, hz with
      | [d1, d2, d3], _ =>
        have h : ((dName i d1 g).bind fun g1 => (dName j d2 g1).bind fun g2 => (dName l d3 g2).bind fun g3 => some g3) = some g' := h
        cases e1 : dName i d1 g with
        | none => rw [e1] at h; cases h
        | some g1 =>
          rw [e1] at h
          cases e2 : dName j d2 g1 with
          | none => simp [e2] at h
          | some g2 =>
            simp only [Option.bind_some, e2] at h
            cases e3 : dName l d3 g2 with
            | none => simp [e3] at h
            | some g3 =>
              simp only [Option.bind_some, e3] at h
              cases h
              cases r with
              | @tup a xs _ m e x =>
                cases x with
                | cons x1 xr =>
                  cases xr with
                  | cons x2 xr =>
                    cases xr with
                    | cons x3 xr =>
                      cases xr
                      exact ⟨_, _, rfl, .of e, rfl, _, _, rfl, grc_name hi d1 g g1 hn e1 H0 Oc pins ow σ H _ R x1 _ fun σ1 R1 w1 hn1 =>
                        ⟨_, _, rfl, grc_name hj d2 g1 g2 hn1 e2 H0 Oc pins ow σ1 H _ R1 x2 _ fun σ2 R2 w2 hn2 =>
                          ⟨_, _, rfl, grc_name hl d3 g2 g' hn2 e3 H0 Oc pins ow σ2 H _ R2 x3 _ fun σ3 R3 w3 hn3 => ⟨rfl, q σ3 R3 (w3.trans (w2.trans w1)) hn3⟩⟩⟩⟩
    · cases h
  · cases h
/-! ### a call that a def makes of itself too deep: it has no reading -/
def tNo : TE := fun _ _ _ => False
theorem pe_no {X : Cx} {e : Expr} : PE X e tNo := ⟨fun _ _ _ _ _ _ h => h.elim⟩
def dNo : DF := fun _ => none
theorem er_no {K : PySem.W.Frag} : ER K tNo dNo := fun g d h => by cases h
end Zq9
end

section
set_option Elab.async false
set_option linter.all false
set_option maxRecDepth 100000
set_option autoImplicit false
set_option maxHeartbeats 4000000
/-! for k in reversed(range(n)); 'c'.join(..).replace('x', 'y'). -/
namespace Zra
open PySem PySem.Spec L2 Zk PyProof.Rows
def revL (n : Nat) : List D := (List.range n).map fun i => .int ((n : Int) - 1 - (i : Nat))
theorem wk_rev {K : PySem.W.Frag} (n : Nat) : Wk K (Itc ((n : Int) - 1) (-1) n) (revL n) [] where
  go := fun O i H hi h _ => by unfold revL at hi; rw [List.length_map, List.length_range] at hi; exact hi
  yld := fun O i H w H' e o h y he => by
    obtain ⟨rfl, rfl⟩ := y
    unfold revL at he
    rw [List.getElem?_map] at he
    have hi : i < n := by
      cases z : (List.range n)[i]? with
      | none => rw [z] at he; cases he
      | some j => have := (List.getElem?_eq_some_iff.mp z).1; rw [List.length_range] at this; exact this
    rw [List.getElem?_range hi] at he
    cases he
    refine ⟨Evl.Ex.refl _, ?_⟩
    have e1 : (n : Int) - 1 + (i : Nat) * (-1) = (n : Int) - 1 - (i : Nat) := by omega
    rw [e1]
    exact .int _
  stop := fun O H h _ => by unfold revL; rw [List.length_map, List.length_range]; exact Nat.le_refl _
def dRevR (a : DF) : DIF := fun g => (a g).bind fun x => match x with
  | .int n => if 0 ≤ n ∧ n ≤ 1000000 then some (revL n.toNat) else none
  | _ => none
theorem ir_revR {K : PySem.W.Frag} {te : TE} {a : DF} (ha : ER K te a) : IR K (iRevR (tRg1 te)) (dRevR a) := fun g ds h H0 Oc pins ow σ H R Q q => by
  unfold dRevR at h
  cases ea : a g with
  | none => rw [ea] at h; cases h
  | some x =>
    rw [ea, Option.bind_some] at h
    split at h
    · rename_i n
      split at h
      · rename_i hn
        cases h
        refine ha g _ ea H0 Oc pins ow σ H R _ fun v H1 e1 r1 => ?_
        cases r1
        have e2 : (0 : Int) + (((n - 0).toNat : Nat) : Int) - 1 = ((n.toNat : Nat) : Int) - 1 := by rw [Int.sub_zero, Int.zero_add]
        refine ⟨n, rfl, by omega, by omega, by omega, by omega, ?_⟩
        show Q (Itc ((0 : Int) + (((n - 0).toNat : Nat) : Int) - 1) (-1) (n - 0).toNat) H1
        rw [e2, Int.sub_zero]
        exact q _ H1 [] e1 (fun p hp => by cases hp) (wk_rev _)
      · cases h
    · cases h
def replD (y z : Str) : D → Option D
  | .str s => if s.length ≤ 100000 ∧ z.length ≤ 10 then some (.str (Txt.replace s y z)) else none
  | _ => none
theorem er_repl {K : PySem.W.Frag} {te : TE} {a : DF} {y z : Str} (ha : ER K te a) : ER K (CwR.tReplC te y z) (d1 (replD y z) a) := fun g d h H0 Oc pins ow σ H R Q q => by
  unfold d1 at h
  cases ea : a g with
  | none => rw [ea] at h; cases h
  | some x =>
    rw [ea, Option.bind_some] at h
    refine ha g x ea H0 Oc pins ow σ H R _ fun v H1 e1 r1 => ?_
    unfold replD at h
    split at h
    · rename_i s
      split at h
      · rename_i hn
        cases h
        cases r1
        refine ⟨s, rfl, ?_, q _ H1 e1 (.str _)⟩
        have h1 : (s.length + 1) * z.length ≤ 100001 * 10 := Nat.mul_le_mul (by omega) hn.2
        omega
      · cases h
    · cases h
theorem pe_joinRepl {X : Cx} {e : Expr} {te : TE} {w y z : Str} {j j1 j2 : Nat} {c0 c1 c2 ap p1 apos pos : Pos} (he : PE X e te) (hyz : (y == z) = false := by decide)
    (hs : starEach [e] X.env = [(false, eval e X.env)] := by rfl) (hb1 : attributeBase (.Constant (.str w) j c0) "join" X.env (eval (.Constant (.str w) j c0) X.env) = eval (.Constant (.str w) j c0) X.env := by rfl) (hl1 : (ap.endLine == p1.line) = true := by rfl)
    (hst : starEach [.Constant (.str y) j1 c1, .Constant (.str z) j2 c2] X.env = [(false, eval (.Constant (.str y) j1 c1) X.env), (false, eval (.Constant (.str z) j2 c2) X.env)] := by rfl)
    (hbase : attributeBase (.Call (.Attribute (.Constant (.str w) j c0) "join" ap) [e] [] p1) "replace" X.env (eval (.Call (.Attribute (.Constant (.str w) j c0) "join" ap) [e] [] p1) X.env) = eval (.Call (.Attribute (.Constant (.str w) j c0) "join" ap) [e] [] p1) X.env := by rfl) (hline : (apos.endLine == pos.line) = true := by rfl) :
    PE X (.Call (.Attribute (.Call (.Attribute (.Constant (.str w) j c0) "join" ap) [e] [] p1) "replace" apos) [.Constant (.str y) j1 c1, .Constant (.str z) j2 c2] [] pos) (CwR.tReplC (tM1 (Zj.rJoinT X.K) (tC (.str w)) te) y z) := by
  refine ⟨fun pins s σ H Q I h => ?_⟩
  refine PySem.Call_method2 hbase hst hline ?_
  refine PySem.Call_method1 hb1 hs hl1 (Calls.Constant_str ?_)
  refine ⟨"str", _, F.plainAttrs_str, F.slot_str_join, F.type_str_join, typeIs_str _ _ _, (fun _ e => nomatch e), ?_⟩
  refine wpAny_mono (PySem.wpAny_toks (Q := EP X pins σ fun v H1 => ∃ x, v = .str x ∧ x.length + (x.length + 1) * z.length ≤ 16777216 ∧ Q (.str (Txt.replace x y z)) H1) (Calls.callWith_builtin rfl (Calls.evalArgs_plain (Calls.spliced_cons ?_)))) (fun v s1 q => ?_) fun _ _ z => z.2
  · have h2 := h.2
    exact thn (he.run pins _ σ H _ (I.tok (s.toks + 1)) h2) fun u s2 ⟨y, H2, I2, r2, q2⟩ => Calls.spliced_nil (mt_join pins s2 σ H2 (.str w) [y] _ [u] _ I2 ⟨s.toks, rfl⟩ (.cons r2 .nil) q2)
  obtain ⟨hk, v', H1, I1, r1, x, e1, hb, q⟩ := q
  have hk : s.toks + 1 ≤ s1.toks := hk
  subst e1
  obtain ⟨tx, e2⟩ := r1
  subst e2
  refine ⟨"str", _, PySem.F.plainAttrs_str, PySem.F.slot_str_replace, PySem.F.type_str_replace, typeIs_str _ _ _, (fun _ e => nomatch e), Calls.callWith_builtin rfl (Calls.evalArgs_plain (Calls.spliced_cons ?_))⟩
  refine Calls.Constant_str (Calls.spliced_cons (Calls.Constant_str (Calls.spliced_nil ?_)))
  exact PySem.SC.replace (by show s1.toks ≠ 0; omega) (by show s1.toks + 1 ≠ 0; omega) (by show s1.toks ≠ s1.toks + 1; omega) hyz hb fun t' k => ⟨.str (Txt.replace x y z), H1, I1.tok k, ⟨t', rfl⟩, q⟩
/-! ### a text walked sign by sign -/
def signsD (x : Str) : List D := x.cps.toList.map fun c => .str ⟨#[c]⟩
theorem wk_str {K : PySem.W.Frag} (x : Str) : Wk K (Its x) (signsD x) [] where
  go := fun O i H hi h _ => by unfold signsD at hi; rw [List.length_map, Array.length_toList] at hi; exact hi
  yld := fun O i H w H' e o h y he => by
    obtain ⟨rfl, c, hc, rfl⟩ := y
    unfold signsD at he
    rw [List.getElem?_map, Array.getElem?_toList, hc] at he
    cases he
    exact ⟨Evl.Ex.refl _, .str _⟩
  stop := fun O H h _ => by unfold signsD; rw [List.length_map, Array.length_toList]; exact Nat.le_refl _
def dTxt (a : DF) : DIF := fun g => (a g).bind fun x => match x with
  | .str s => some (signsD s)
  | _ => none
theorem ir_str {K : PySem.W.Frag} {te : TE} {a : DF} (ha : ER K te a) : IR K (iStr te) (dTxt a) := fun g ds h H0 Oc pins ow σ H R Q q => by
  unfold dTxt at h
  cases ea : a g with
  | none => rw [ea] at h; cases h
  | some x =>
    rw [ea, Option.bind_some] at h
    split at h
    · cases h
      refine ha g _ ea H0 Oc pins ow σ H R _ fun v H1 e1 r1 => ?_
      cases r1
      exact ⟨_, rfl, q _ H1 [] e1 (fun p hp => by cases hp) (wk_str _)⟩
    · cases h
/-! ### < of ints or of texts -/
def ltA : D → D → Option D
  | .int i, .int j => some (.bl (decide (i < j)))
  | .str i, .str j => some (.bl (Zj.ltTf i j))
  | _, _ => none
theorem rr_ltA {K : PySem.W.Frag} {r r' : R2} (h : RR K r ltD) (h' : RR K r' (Zj.onT Zj.ltTf)) : RR K (fun x y H Q => r x y H Q ∨ r' x y H Q) ltA := fun x y d e O H v u o rx ry Q q => by
  unfold ltA at e
  split at e
  · rename_i i j
    exact .inl (h (.int i) (.int j) d e O H v u o rx ry Q q)
  · rename_i i j
    exact .inr (h' (.str i) (.str j) d e O H v u o rx ry Q q)
  · cases e
/-! ### a sum of lists as a new own list -/
def addL : D → D → Option D
  | .lst xs, .lst ys => if xs.length + ys.length ≤ 100000 then some (.lst (xs ++ ys)) else none
  | _, _ => none
section
variable {K : PySem.W.Frag} {ta tb : TE} {a b : DF}
theorem eo_addL (ha : ER K ta a) (hb : ER K tb b) : EO K (tOp rAddA ta tb) (d2 addL a b) := fun g d h H0 Oc pins ow σ H R Q q => by
  unfold d2 at h
  cases ea : a g with
  | none => rw [ea] at h; cases h
  | some x =>
    rw [ea, Option.bind_some] at h
    cases eb : b g with
    | none => rw [eb] at h; cases h
    | some y =>
      rw [eb, Option.bind_some] at h
      unfold addL at h
      split at h
      · rename_i xs ys
        split at h
        · rename_i hl
          cases h
          refine ha g _ ea H0 Oc pins ow σ H R _ fun v H1 e1 r1 => hb g _ eb H0 Oc pins ow σ H1 (R.grow e1) _ fun u H2 e2 r2 => ?_
          have r1 := r1.ex e2
          cases r1 with
          | @lst a1 xs1 _ n e r =>
            cases r2 with
            | @lst a2 xs2 _ n' e' r' =>
              refine .inr (.inr ⟨_, _, _, _, rfl, rfl, e, e', by rw [r.len, r'.len]; exact Evl.sz_of hl, fun p hp => ?_⟩)
              have e3 := Evl.Ex.new (o := .lst (xs1 ++ xs2)) hp
              refine q p _ ((e1.trans e2).trans e3) (Evl.fresh_back (e1.trans e2) hp) ⟨_, upd_same, (r.app r').kp fun b o n e => ⟨fun z => ?_, e3 b o e⟩⟩
              rcases z with z | z
              · exact n z
              · rw [z, hp] at e; cases e
        · cases h
      · cases h
def addOL (i : Nat) (b : DF) : DF := fun g => match g[i]? with
  | some (some (.o (.lst ds))) => (b g).bind fun y => addL (.lst ds) y
  | _ => none
theorem eo_addO (i : Nat) (hb : ER K tb b) : EO K (tOp rAddA (tVar i) tb) (addOL i b) := fun g d h H0 Oc pins ow σ H R Q q => by
  unfold addOL at h
  split at h
  · rename_i ds hd
    cases eb : b g with
    | none => rw [eb] at h; cases h
    | some y =>
      rw [eb, Option.bind_some] at h
      obtain ⟨p, h1, h2, xs, h3, h4⟩ := R.own i _ hd
      refine ⟨.ref p, h2, hb g y eb H0 Oc pins ow σ H R _ fun u H1 e1 r1 => ?_⟩
      unfold addL at h
      split at h
      · rename_i _ _ xs0 ys ex
        cases ex
        split at h
        · rename_i hl
          cases h
          cases r1 with
          | @lst a2 xs2 _ n' e' r' =>
            refine .inr (.inr ⟨_, _, _, _, rfl, rfl, e1 _ _ h3, e', by rw [h4.len, r'.len]; exact Evl.sz_of hl, fun p hp => ?_⟩)
            have e3 := Evl.Ex.new (o := .lst (xs ++ xs2)) hp
            refine q p _ (e1.trans e3) (Evl.fresh_back e1 hp) ⟨_, upd_same, ((h4.ex e1).app r').kp fun b o n e => ⟨fun z => ?_, e3 b o e⟩⟩
            rcases z with z | z
            · exact n z
            · rw [z, hp] at e; cases e
        · cases h
      · cases h
  · cases h
end
end Zra
end

section
set_option Elab.async false
set_option linter.all false
set_option maxRecDepth 100000
set_option autoImplicit false
set_option maxHeartbeats 4000000
/-! sorted(xs), xs a list of data that are alike: texts, or tuples. -/
namespace Zrb
open PySem PySem.Spec L2 Zk PyProof.Rows
open PySem.W (alike AllAlike Sortable dataLe sorted_data EachIs each_mem)
def rSortDat (K : PySem.W.Frag) : List V → Hp → VK → Prop := fun vs H Q => ∃ (a : Addr) (bs : List (V × PyData)), vs = [V.ref a] ∧ SqL K H a (bs.map (·.1)) ∧ (∀ b ∈ bs, Dp K H b.1 b.2) ∧ AllAlike (bs.map (·.2)) ∧ Sortable (bs.map (·.2)) ∧ bs.length ≤ 1000 ∧
  (∀ b ∈ bs, b.2.depth ≤ 40) ∧ ∀ p, H p = none → Q (.ref p) (upd H p (.lst ((bs.mergeSort (dataLe false (·.2))).map (·.1))))
theorem each_of : ∀ {bs : List (V × PyData)} {us : List Value}, Vals (bs.map (·.1)) us → EachIs (fun v b => RelV b.1 v) us bs
  | [], [], _ => .nil
  | [], _ :: _, h => by cases h
  | b :: bs, us, h => by
    cases h with
    | cons h t => exact .cons h (each_of t)
theorem vals_of : ∀ {us : List Value} {bs : List (V × PyData)}, EachIs (fun v b => RelV b.1 v) us bs → Vals (bs.map (·.1)) us
  | _, _, .nil => .nil
  | _, _, .cons h t => .cons h (vals_of t)
section
variable {X : Cx}
theorem cr_sortDat (hu : X.A.units + 64 < cLine) : CallR X (.builtin "sorted") (rSortDat X.K) := by
  intro pins s σ H vs us Q I r h
  obtain ⟨a, bs, rfl, hs, hd, hal, hk, hL, hdp, q⟩ := h
  obtain ⟨its, rv, hl, hz⟩ := I.list hs
  obtain ⟨u, rfl, ru⟩ := vals1 r
  obtain rfl : u = Value.ref a := ru
  have e0 := each_of rv
  refine sorted_data (R := fun v b => RelV b.1 v) (enc := (·.2)) hl.isList e0 ?_ hal hk (Nat.le_trans hL (by decide)) (fun b hb => by have := hdp b hb; omega) fun out ho hout => ?_
  · exact (each_mem e0).mono fun v b ⟨h1, h2⟩ => Dp.reads I b.2 b.1 v (hd b h2) h1
  · obtain ⟨ep, he'⟩ := PyProof.Rows.sortedAll_at s.heap its out.toArray
    have hlen : ((bs.mergeSort (dataLe false (·.2))).map (·.1)).length ≤ sizeLine := by
      rw [List.length_map, (List.mergeSort_perm _ _).length_eq]
      exact Nat.le_trans hL (by decide)
    exact ⟨.ref _, upd H (s.heap.objs.size + 1) (.lst ((bs.mergeSort (dataLe false (·.2))).map (·.1))), I.laid (t' := s.toks) (fun _ _ => PyProof.Rows.sortedAll_old) (Nat.le_succ _) ⟨hlen, out, ep, vals_of hout, he'⟩, rfl, q _ (I.hok.fresh (Nat.le_succ _))⟩
end
def encD (d : D) : PyData := (toP d).getD .none
def leDat (x y : D) : Bool := dataLe false encD x y
def alikeOk (ds : List D) : Bool := ds.all fun x => ds.all fun y => alike (encD x) (encD y)
def isTup1 : D → Bool
  | .tup (_ :: _) => true
  | _ => false
def isAtom : D → Bool
  | .str _ => true
  | .int _ => true
  | _ => false
def sortDatD : List D → Option D
  | [.lst ds] => if (toPs ds).isSome = true ∧ alikeOk ds = true ∧ (ds.all isTup1 = true ∨ ds.all isAtom = true) ∧ ds.length ≤ 1000 ∧ (ds.all fun d => decide ((encD d).depth ≤ 40)) = true then some (.lst (ds.mergeSort leDat)) else none
  | _ => none
section
variable {K : PySem.W.Frag} {O : Addr → Prop} {H : Hp}
theorem zip_rp : ∀ {xs : List V} {ds : List D}, RpA K O H xs ds → (∀ c ∈ xs.zip ds, Rp K O H c.1 c.2) ∧ (xs.zip ds).map (·.1) = xs ∧ (xs.zip ds).map (·.2) = ds
  | _, _, .nil => ⟨fun c hc => (by cases hc), rfl, rfl⟩
  | _, _, .cons r t => by
    obtain ⟨h1, h2, h3⟩ := zip_rp t
    refine ⟨fun c hc => ?_, by rw [List.zip_cons_cons, List.map_cons, h2], by rw [List.zip_cons_cons, List.map_cons, h3]⟩
    rcases List.mem_cons.mp hc with e | m
    · rw [e]; exact r
    · exact h1 c m
theorem rp_zip : ∀ {cs : List (V × D)}, (∀ c ∈ cs, Rp K O H c.1 c.2) → RpA K O H (cs.map (·.1)) (cs.map (·.2))
  | [], _ => .nil
  | c :: cs, h => .cons (h c List.mem_cons_self) (rp_zip fun d m => h d (List.mem_cons_of_mem _ m))
theorem toPs_all : ∀ {ds : List D}, (toPs ds).isSome = true → ∀ d ∈ ds, toP d = some (encD d)
  | [], _, d, m => by cases m
  | x :: ds, h, d, m => by
    unfold toPs at h
    cases e : toP x with
    | none => rw [e] at h; cases h
    | some p =>
      rw [e, Option.bind_some] at h
      rcases List.mem_cons.mp m with z | m
      · rw [z]; unfold encD; rw [e]; rfl
      · refine toPs_all ?_ d m
        cases e2 : toPs ds with
        | none => rw [e2] at h; cases h
        | some ps => rfl
theorem enc_tup {d : D} (h : isTup1 d = true) (hp : toP d = some (encD d)) : ∃ x r, encD d = .tuple (x :: r) := by
  cases d with
  | tup ds =>
    cases ds with
    | nil => cases h
    | cons a ds =>
      unfold toP toPs at hp
      cases e : toP a with
      | none => rw [e] at hp; cases hp
      | some p =>
        rw [e, Option.bind_some] at hp
        cases e2 : toPs ds with
        | none => rw [e2] at hp; cases hp
        | some ps => rw [e2] at hp; exact ⟨p, ps, (Option.some.inj hp).symm⟩
  | _ => cases h
theorem enc_atom {d : D} (h : isAtom d = true) : encD d ≠ .none ∧ ∀ xs, encD d ≠ .tuple xs := by
  cases d with
  | str s => exact ⟨fun z => (nomatch z), fun xs z => (nomatch z)⟩
  | int s => exact ⟨fun z => (nomatch z), fun xs z => (nomatch z)⟩
  | _ => cases h
theorem rc_sortDat : RC K (rSortDat K) sortDatD := fun xs d h O H vs o r Q q => by
  unfold sortDatD at h
  split at h
  · rename_i ds
    split at h
    · rename_i hc
      obtain ⟨h1, h2, h3, h4, h5⟩ := hc
      cases h
      cases r with
      | cons r rr =>
        cases rr
        cases r with
        | @lst a xs _ n e r =>
          obtain ⟨z1, z2, z3⟩ := zip_rp r
          have hm : ∀ c ∈ xs.zip ds, c.2 ∈ ds := fun c hc => by
            have := List.mem_map_of_mem (f := (·.2)) hc
            rw [z3] at this
            exact this
          have ep : ∀ d ∈ ds, toP d = some (encD d) := toPs_all h1
          have es : (((xs.zip ds).map fun c => (c.1, encD c.2)).map fun b : V × PyData => b.2) = ds.map encD := by
            rw [List.map_map]
            have z4 : ((xs.zip ds).map fun c : V × D => c.2).map encD = ds.map encD := by rw [z3]
            rw [List.map_map] at z4
            exact z4
          have hw : (((xs.zip ds).map fun c => (c.1, encD c.2)).mergeSort (dataLe false (·.2))).map (·.1) = ((xs.zip ds).mergeSort fun c c' => leDat c.2 c'.2).map (·.1) := by
            rw [← List.map_mergeSort (r := fun c c' : V × D => leDat c.2 c'.2) (s := dataLe false (·.2)) (f := fun c : V × D => (c.1, encD c.2)) (fun _ _ _ _ => rfl), List.map_map] <;> rfl
          have hs : ((xs.zip ds).mergeSort fun c c' => leDat c.2 c'.2).map (·.2) = ds.mergeSort leDat := by
            rw [List.map_mergeSort (s := leDat) (f := fun c : V × D => c.2) (fun _ _ _ _ => rfl), z3]
          refine ⟨a, (xs.zip ds).map fun c => (c.1, encD c.2), rfl, ?_, fun b hb => ?_, ?_, ?_, ?_, fun b hb => ?_, fun p hp => ?_⟩
          · rw [List.map_map]
            show SqL K H a ((xs.zip ds).map (·.1))
            rw [z2]
            exact .inl (.of e)
          · obtain ⟨c, hc, rfl⟩ := List.mem_map.mp hb
            exact dp_of (z1 c hc) (ep _ (hm c hc))
          · rw [es]
            intro x hx y hy
            obtain ⟨x', hx', rfl⟩ := List.mem_map.mp hx
            obtain ⟨y', hy', rfl⟩ := List.mem_map.mp hy
            exact List.all_eq_true.mp (List.all_eq_true.mp h2 x' hx') y' hy'
          · rw [es]
            rcases h3 with h3 | h3
            · refine .inl fun x hx => ?_
              obtain ⟨x', hx', rfl⟩ := List.mem_map.mp hx
              exact enc_tup (List.all_eq_true.mp h3 x' hx') (ep x' hx')
            · refine .inr fun x hx => ?_
              obtain ⟨x', hx', rfl⟩ := List.mem_map.mp hx
              exact enc_atom (List.all_eq_true.mp h3 x' hx')
          · have := congrArg List.length z3
            rw [List.length_map] at this
            rw [List.length_map, this]
            exact h4
          · obtain ⟨c, hc, rfl⟩ := List.mem_map.mp hb
            exact of_decide_eq_true (List.all_eq_true.mp h5 _ (hm c hc))
          · rw [hw]
            have rz := rp_zip (K := K) (O := O) (H := H) (cs := (xs.zip ds).mergeSort fun c c' => leDat c.2 c'.2) fun c hc => z1 c ((List.mergeSort_perm _ _).mem_iff.mp hc)
            rw [hs] at rz
            exact rr_newL o q rz p hp
    · cases h
  · cases h
end
end Zrb
end

section
set_option Elab.async false
set_option linter.all false
set_option maxRecDepth 100000
set_option maxHeartbeats 4000000
namespace Y
open PySem L2 Zk
abbrev top (i : Nat) : Stmt := PySem.Challenge.pw_pairwarden_k30_logs_read.main.body.getD i (.Pass ⟨0, 0, 0, 0⟩)
abbrev s_is_name : Stmt := top 1
abbrev N_is_name : List Str := ["word", "char"]
abbrev s_is_number : Stmt := top 2
abbrev N_is_number : List Str := ["word"]
abbrev s_read_joined : Stmt := top 3
abbrev N_read_joined : List Str := ["word", "parts", "part"]
abbrev s_read_record : Stmt := top 5
abbrev N_read_record : List Str := ["text", "body", "mark", "rest", "word", "words"]
abbrev s_read_log : Stmt := top 6
abbrev N_read_log : List Str := ["log", "start", "records", "text", "record"]
abbrev s_log_end : Stmt := top 7
abbrev N_log_end : List Str := ["log", "start"]
abbrev s_read_picture : Stmt := top 8
abbrev N_read_picture : List Str := ["words", "at", "caps", "names", "wardens", "word", "name", "_"]
abbrev s_read_put : Stmt := top 9
abbrev N_read_put : List Str := ["words", "name", "wardens"]
abbrev s_read_deal : Stmt := top 10
abbrev N_read_deal : List Str := ["words", "wardens"]
abbrev s_read_cap : Stmt := top 11
abbrev N_read_cap : List Str := ["words", "numbers", "wardens", "word"]
abbrev s_read_name : Stmt := top 12
abbrev N_read_name : List Str := ["word", "name", "mark", "rest", "numbers"]
abbrev s_read_wardens : Stmt := top 13
abbrev N_read_wardens : List Str := ["words", "wardens", "word", "number", "_"]
abbrev s_read_warden : Stmt := top 14
abbrev N_read_warden : List Str := ["word", "number", "_", "rest", "pair"]
abbrev s_rise : Stmt := top 15
abbrev N_rise : List Str := ["items", "first", "second"]
abbrev s_count : Stmt := top 16
abbrev N_count : List Str := ["numbers"]
abbrev s_last_picture : Stmt := top 17
abbrev N_last_picture : List Str := ["log", "index"]
abbrev s_law_cell : Stmt := top 19
abbrev N_law_cell : List Str := ["script", "k"]
abbrev s_law_draws : Stmt := top 20
abbrev N_law_draws : List Str := ["cell", "sizes", "left", "digits", "drawn", "k", "size", "mixed"]
abbrev s_law_sign : Stmt := top 21
abbrev N_law_sign : List Str := ["number", "signs"]
abbrev s_law_is_integer : Stmt := top 22
abbrev N_law_is_integer : List Str := ["actual"]
abbrev s_law_names : Stmt := top 23
abbrev N_law_names : List Str := ["cell", "drawn", "signs", "stem", "names", "k", "spot"]
abbrev s_law_alike : Stmt := top 24
abbrev N_law_alike : List Str := ["actual", "due", "k"]
abbrev s_law_join : Stmt := top 25
abbrev N_law_join : List Str := ["numbers", "number"]
abbrev s_law_text_of : Stmt := top 26
abbrev N_law_text_of : List Str := ["record", "words", "entry", "named"]
abbrev s_law_sizes : Stmt := top 27
abbrev N_law_sizes : List Str := []
abbrev s_law_small : Stmt := top 28
abbrev N_law_small : List Str := ["row", "k", "is_picture", "names", "numbers", "others", "wardens", "step", "low", "first", "second", "caps", "named"]
abbrev s_law_other : Stmt := top 29
abbrev N_law_other : List Str := ["number", "texts"]
abbrev s_law_string : Stmt := top 30
abbrev N_law_string : List Str := ["cell", "names", "before", "row", "is_picture", "record", "text", "old", "kept", "k"]
abbrev s_law_counted : Stmt := top 31
abbrev N_law_counted : List Str := ["strings", "records", "end", "counts", "k", "record"]
abbrev s_law_reads : Stmt := top 32
abbrev N_law_reads : List Str := ["handed", "strings", "due", "actual", "end", "string"]
abbrev s_law : Stmt := top 33
abbrev N_law : List Str := ["script", "names", "strings", "before", "k", "row", "handed", "size", "record", "string"]
/-- the classes -/
structure Cs where

  z : Unit := ()
def t_is_name : SF :=
 (sRet (dAndV (dChain leD leD (dC (.int 1)) (dN lenD (aCons (dVar 0) aNil)) (dC (.int 12))) (dN allD (aCons (dLc (Zra.dTxt (dVar 0)) (dName 1) dYes (dOrV (dChain (Zj.onT Zj.leTf) (Zj.onT Zj.leTf) (dC (.str "a")) (dVar 1) (dC (.str "z"))) (dChain (Zj.onT Zj.leTf) (Zj.onT Zj.leTf) (dC (.str "0")) (dVar 1) (dC (.str "9")))) [1]) aNil))))
def g_is_name : PF := runG 1 (t_is_name)
def t_is_number : SF :=
 (sRet (dAndV (Zj.dM0 Zj.isdigitD (dVar 0)) (dOrV (d2 eqD (dVar 0) (dC (.str "0"))) (d1 notD (Zj.dM1 Zj.startsD (dVar 0) (dC (.str "0")))))))
def g_is_number : PF := runG 0 (t_is_number)
def t_read_joined : SF :=
 (sSeq (sAsg (Zj.dM1 Zj.splitD (dVar 0) (dC (.str ","))) (dName 1))
 (sRet (dIf (tDt truD (dN allD (aCons (dLc (dItems (dVar 1)) (dName 2) dYes (dCall 1 (g_is_number) (aCons (dVar 2) aNil)) [2]) aNil))) (dLc (dItems (dVar 1)) (dName 2) dYes (dN Zj.intSD (aCons (dVar 2) aNil)) [2]) (dC .non))))
def g_read_joined : PF := runG 2 (t_read_joined)
def t_rise : SF :=
 (sRet (dN allD (aCons (dLc (Zq9.dZip (aCons (dVar 0) (aCons (dSl (dVar 0) (oSome (dC (.int 1))) oNone) aNil))) (dgTup 2 (dgCons (dName 1) (dgCons (dName 2) dgNil))) dYes (d2 Zra.ltA (dVar 1) (dVar 2)) [1, 2]) aNil)))
def g_rise : PF := runG 2 (t_rise)
def t_count : SF :=
 (sRet (dCall 1 (g_rise) (aCons (d2 addD (dN mkLst (aCons (dC (.int 0)) aNil)) (dVar 0)) aNil)))
def g_count : PF := runG 0 (t_count)
def t_read_name : SF :=
 (sSeq (sAsg (Zj.dM1 Zj.partD (dVar 0) (dC (.str "="))) (dgTup 3 (dgCons (dName 1) (dgCons (dName 2) (dgCons (dName 3) dgNil)))))
 (sSeq (sAsg (dIf (tDt truD (dVar 3)) (dCall 1 (g_read_joined) (aCons (dVar 3) aNil)) (dN mkLst aNil)) (dName 4))
 (sSeq (sIf (dOrT (dNotT (tDt truD (dCall 1 (g_is_name) (aCons (dVar 1) aNil)))) (dOrT (dNotT (tDt truD (dVar 2))) (dOrT (tDt blD (d2 isD (dVar 4) (dC .non))) (dNotT (tDt truD (dCall 1 (g_count) (aCons (dVar 4) aNil)))))))
 (sRet (dC .non))
 sNext)
 (sRet (dN mkTup (aCons (dVar 1) (aCons (dN tupleD (aCons (dVar 4) aNil)) aNil)))))))
def g_read_name : PF := runG 4 (t_read_name)
def t_read_warden : SF :=
 (sSeq (sAsg (Zj.dM1 Zj.partD (dVar 0) (dC (.str ":"))) (dgTup 3 (dgCons (dName 1) (dgCons (dName 2) (dgCons (dName 3) dgNil)))))
 (sSeq (sAsg (dCall 1 (g_read_joined) (aCons (dVar 3) aNil)) (dName 4))
 (sSeq (sIf (dOrT (dNotT (tDt truD (dCall 1 (g_is_number) (aCons (dVar 1) aNil)))) (dOrT (tDt blD (d2 isD (dVar 4) (dC .non))) (dOrT (tDt blD (d2 neD (dN lenD (aCons (dVar 4) aNil)) (dC (.int 2)))) (dNotT (tDt truD (dCall 1 (g_rise) (aCons (dVar 4) aNil)))))))
 (sRet (dC .non))
 sNext)
 (sRet (dN mkTup (aCons (dN Zj.intSD (aCons (dVar 1) aNil)) (aCons (d2 ixD (dVar 4) (dC (.int 0))) (aCons (d2 ixD (dVar 4) (dC (.int 1))) aNil))))))))
def g_read_warden : PF := runG 4 (t_read_warden)
def t_read_wardens : SF :=
 (sSeq (sIf (dOrT (dNotT (tDt truD (dVar 0))) (tDt blD (d2 neD (d2 ixD (dVar 0) (dC (.int 0))) (dC (.str "/")))))
 (sRet (dC .non))
 sNext)
 (sSeq (sAsg (dLc (dItems (dSl (dVar 0) (oSome (dC (.int 1))) oNone)) (dName 2) dYes (dCall 1 (g_read_warden) (aCons (dVar 2) aNil)) [2]) (dName 1))
 (sSeq (sIf (dOrT (tDt blD (d2 inPD (dC .non) (dVar 1))) (dNotT (tDt truD (dCall 1 (g_count) (aCons (dLc (dItems (dVar 1)) (dgTup 3 (dgCons (dName 3) (dgCons (dName 4) (dgCons (dName 4) dgNil)))) dYes (dVar 3) [3, 4]) aNil)))))
 (sRet (dC .non))
 sNext)
 (sRet (dN tupleD (aCons (dVar 1) aNil))))))
def g_read_wardens : PF := runG 4 (t_read_wardens)
def t_read_picture : SF :=
 (sSeq (sIf (tDt blD (d2 ninPD (dC (.str "/")) (dVar 0)))
 (sRet (dC .non))
 sNext)
 (sSeq (sAsg (d2 Zk2.idxD (dVar 0) (dC (.str "/"))) (dName 1))
 (sSeq (sAsg (dCall 1 (g_read_joined) (aCons (d2 ixD (dVar 0) (dC (.int 0))) aNil)) (dName 2))
 (sSeq (sAsg (dLc (dItems (dSl (dVar 0) (oSome (dC (.int 1))) (oSome (dVar 1)))) (dName 5) dYes (dCall 1 (g_read_name) (aCons (dVar 5) aNil)) [5]) (dName 3))
 (sSeq (sAsg (dCall 1 (g_read_wardens) (aCons (dSl (dVar 0) (oSome (dVar 1)) oNone) aNil)) (dName 4))
 (sSeq (sIf (dOrT (tDt blD (d2 isD (dVar 2) (dC .non))) (dOrT (tDt blD (d2 inPD (dC .non) (dVar 3))) (dOrT (tDt blD (d2 isD (dVar 4) (dC .non))) (dNotT (tDt truD (dCall 1 (g_rise) (aCons (dLc (dItems (dVar 3)) (dgTup 2 (dgCons (dName 6) (dgCons (dName 7) dgNil))) dYes (dVar 6) [6, 7]) aNil)))))))
 (sRet (dC .non))
 sNext)
 (sRet (dN mkTup (aCons (dC (.str "picture")) (aCons (dN tupleD (aCons (dVar 2) aNil)) (aCons (dN tupleD (aCons (dVar 3) aNil)) (aCons (dVar 4) aNil))))))))))))
def g_read_picture : PF := runG 7 (t_read_picture)
def t_read_put : SF :=
 (sSeq (sAsg (dIf (tDt truD (dVar 0)) (dCall 1 (g_read_name) (aCons (d2 ixD (dVar 0) (dC (.int 0))) aNil)) (dC .non)) (dName 1))
 (sSeq (sAsg (dCall 1 (g_read_wardens) (aCons (dSl (dVar 0) (oSome (dC (.int 1))) oNone) aNil)) (dName 2))
 (sRet (dIf (dOrT (tDt blD (d2 isD (dVar 1) (dC .non))) (tDt blD (d2 isD (dVar 2) (dC .non)))) (dC .non) (dN mkTup (aCons (dC (.str "put")) (aCons (d2 ixD (dVar 1) (dC (.int 0))) (aCons (d2 ixD (dVar 1) (dC (.int 1))) (aCons (dVar 2) aNil)))))))))
def g_read_put : PF := runG 2 (t_read_put)
def t_read_deal : SF :=
 (sSeq (sAsg (dCall 1 (g_read_wardens) (aCons (dVar 0) aNil)) (dName 1))
 (sRet (dIf (tDt blD (d2 isD (dVar 1) (dC .non))) (dC .non) (dN mkTup (aCons (dC (.str "deal")) (aCons (dVar 1) aNil))))))
def g_read_deal : PF := runG 1 (t_read_deal)
def t_read_cap : SF :=
 (sSeq (sAsg (dSl (dVar 0) oNone (oSome (dC (.int 2)))) (dName 1))
 (sSeq (sAsg (dCall 1 (g_read_wardens) (aCons (dSl (dVar 0) (oSome (dC (.int 2))) oNone) aNil)) (dName 2))
 (sSeq (sIf (dOrT (dNotT (tDt truD (dN allD (aCons (dLc (dItems (dVar 1)) (dName 3) dYes (dCall 1 (g_is_number) (aCons (dVar 3) aNil)) [3]) aNil)))) (tDt blD (d2 isD (dVar 2) (dC .non))))
 (sRet (dC .non))
 sNext)
 (sRet (dN mkTup (aCons (dC (.str "cap")) (aCons (dN Zj.intSD (aCons (d2 ixD (dVar 1) (dC (.int 0))) aNil)) (aCons (dN Zj.intSD (aCons (d2 ixD (dVar 1) (dC (.int 1))) aNil)) (aCons (dVar 2) aNil)))))))))
def g_read_cap : PF := runG 3 (t_read_cap)
def t_read_record : SF :=
 (sSeq (sAsg (Zj.dM1 Zj.partD (dVar 0) (dC (.str ";"))) (dgTup 3 (dgCons (dName 1) (dgCons (dName 2) (dgCons (dName 3) dgNil)))))
 (sSeq (sIf (dOrT (dNotT (tDt truD (dVar 2))) (tDt truD (dVar 3)))
 (sRet (dC .non))
 sNext)
 (sSeq (Zj.sStar (Zj.dM1 Zj.splitD (dVar 1) (dC (.str " "))) 2 1 (dgCons (dName 4) (dgCons (dName 5) dgNil)))
 (sSeq (sIf (tDt blD (d2 eqD (dVar 4) (dC (.str "picture"))))
 (sRet (dCall 1 (g_read_picture) (aCons (dVar 5) aNil)))
 sNext)
 (sSeq (sIf (tDt blD (d2 eqD (dVar 4) (dC (.str "put"))))
 (sRet (dCall 1 (g_read_put) (aCons (dVar 5) aNil)))
 sNext)
 (sSeq (sIf (tDt blD (d2 eqD (dVar 4) (dC (.str "erase"))))
 (sRet (dIf (dAndT (tDt blD (d2 eqD (dN lenD (aCons (dVar 5) aNil)) (dC (.int 1)))) (tDt truD (dCall 1 (g_is_name) (aCons (d2 ixD (dVar 5) (dC (.int 0))) aNil)))) (dN mkTup (aCons (dC (.str "erase")) (aCons (d2 ixD (dVar 5) (dC (.int 0))) aNil))) (dC .non)))
 sNext)
 (sSeq (sIf (tDt blD (d2 eqD (dVar 4) (dC (.str "deal"))))
 (sRet (dCall 1 (g_read_deal) (aCons (dVar 5) aNil)))
 sNext)
 (sSeq (sIf (tDt blD (d2 eqD (dVar 4) (dC (.str "cap"))))
 (sRet (dCall 1 (g_read_cap) (aCons (dVar 5) aNil)))
 sNext)
 (sRet (dC .non))))))))))
def g_read_record : PF := runG 5 (t_read_record)
def t_last_picture : SF :=
 (sSeq (sFor (Zra.dRevR (dN lenD (aCons (dVar 0) aNil))) (dName 1)
 (sIf (dAndT (tDt truD (Zj.dM1 Zj.startsD (d2 ixD (dVar 0) (dVar 1)) (dC (.str "picture ")))) (tDt blD (d2 isntD (dCall 1 (g_read_record) (aCons (d2 ixD (dVar 0) (dVar 1)) aNil)) (dC .non))))
 (sRet (dVar 1))
 sNext))
 (sRet (dC .non)))
def g_last_picture : PF := runG 1 (t_last_picture)
def t_read_log : SF :=
 (sSeq (sAsg (dCall 1 (g_last_picture) (aCons (dVar 0) aNil)) (dName 1))
 (sSeq (sIf (tDt blD (d2 isD (dVar 1) (dC .non)))
 (sRetO (dN mkLst aNil))
 sNext)
 (sSeq (sAsgO (dN mkLst aNil) 2)
 (sSeq (sFor (dItems (dSl (dVar 0) (oSome (dVar 1)) oNone)) (dName 3)
 (sSeq (sAsg (dCall 1 (g_read_record) (aCons (dVar 3) aNil)) (dName 4))
 (sSeq (sIf (tDt blD (d2 isD (dVar 4) (dC .non)))
 (sRetV 2)
 sNext)
 (sApp 2 (dVar 4)))))
 (sRetV 2)))))
def g_read_log : PF := runG 4 (t_read_log)
def t_log_end : SF :=
 (sSeq (sAsg (dCall 1 (g_last_picture) (aCons (dVar 0) aNil)) (dName 1))
 (sRet (dIf (tDt blD (d2 isD (dVar 1) (dC .non))) (dC (.int 0)) (d2 addD (dVar 1) (dN lenD (aCons (dCall 1 (g_read_log) (aCons (dVar 0) aNil)) aNil))))))
def g_log_end : PF := runG 1 (t_log_end)
def t_law_cell : SF :=
 (sSeq (sIf (tDt blD (d2 ltD (dVar 1) (dN lenD (aCons (dVar 0) aNil))))
 (sRet (d2 ixD (dVar 0) (dVar 1)))
 sNext)
 (sRet (dC (.int 0))))
def g_law_cell : PF := runG 0 (t_law_cell)
def t_law_draws : SF :=
 (sSeq (sAsg (dN absD (aCons (dN intD (aCons (dVar 0) aNil)) aNil)) (dName 2))
 (sSeq (sAsg (d2 geD (dVar 2) (d2 powD (dC (.int 10)) (dC (.int 18)))) (dName 3))
 (sSeq (sAsgO (dN mkLst aNil) 4)
 (sSeq (sFor (dRng1 (aCons (dN lenD (aCons (dVar 1) aNil)) aNil)) (dName 5)
 (sSeq (sAsg (d2 ixD (dVar 1) (dVar 5)) (dName 6))
 (sIf (dAndT (tDt truD (dVar 3)) (tDt blD (d2 gtD (dVar 2) (dC (.int 0)))))
 (sSeq (sApp 4 (d2 modD (dN intD (aCons (dVar 2) aNil)) (dVar 6)))
 (sAsg (d2 fdivD (dVar 2) (dVar 6)) (dName 2)))
 (sSeq (sAsg (d2 modD (dN intD (aCons (d2 addD (d2 addD (dN absD (aCons (dN intD (aCons (dVar 0) aNil)) aNil)) (d2 mulD (dC (.int 7919)) (dVar 5))) (dC (.int 13))) aNil)) (dC (.int 2147483647))) (dName 7))
 (sSeq (sAsg (d2 modD (dN intD (aCons (d2 mulD (dVar 7) (d2 addD (dVar 7) (dC (.int 48271)))) aNil)) (dC (.int 2147483629))) (dName 7))
 (sSeq (sAsg (d2 modD (dN intD (aCons (d2 addD (d2 mulD (dVar 7) (d2 addD (dVar 7) (dC (.int 69621)))) (d2 mulD (dC (.int 31)) (dVar 5))) aNil)) (dC (.int 2147483647))) (dName 7))
 (sApp 4 (d2 modD (dN intD (aCons (d2 fdivD (dVar 7) (dC (.int 9))) aNil)) (dVar 6)))))))))
 (sRetV 4)))))
def g_law_draws : PF := runG 6 (t_law_draws)
def t_law_sign : SF :=
 (sSeq (sAsg (dC (.str " !\"#$&'()*+,-./0123456789:;<=>?@ABCDEFGHIJKLMNOPQRSTUVWXYZ[\\]^_`")) (dName 1))
 (sSeq (sAsg (d2 addD (dVar 1) (dC (.str "abcdefghijklmnopqrstuvwxyz{|}~"))) (dName 1))
 (sRet (d2 ixD (dVar 1) (d2 modD (dN intD (aCons (dVar 0) aNil)) (dC (.int 94)))))))
def g_law_sign : PF := runG 1 (t_law_sign)
def t_law_is_integer : SF :=
 (sRet (dAndV (dN isiD (aCons (dVar 0) (aCons (dC (.ty "int")) aNil))) (d1 notD (dN isiD (aCons (dVar 0) (aCons (dC (.ty "bool")) aNil))))))
def g_law_is_integer : PF := runG 0 (t_law_is_integer)
def t_law_names : SF :=
 (sSeq (sAsg (dCall 2 (g_law_draws) (aCons (dVar 0) (aCons (d2 addD (d2 addD (d2 mulD (dN mkLst (aCons (dC (.int 36)) aNil)) (dC (.int 12))) (d2 mulD (dN mkLst (aCons (dC (.int 12)) aNil)) (dC (.int 4)))) (d2 mulD (dN mkLst (aCons (dC (.int 36)) aNil)) (dC (.int 4)))) aNil))) (dName 1))
 (sSeq (sAsg (dC (.str "abcdefghijklmnopqrstuvwxyz0123456789")) (dName 2))
 (sSeq (sAsg (Zj.dM1 Zj.joinD (dC (.str "")) (dLc (dRng1 (aCons (dC (.int 12)) aNil)) (dName 5) dYes (d2 ixD (dVar 2) (d2 ixD (dVar 1) (dVar 5))) [5])) (dName 3))
 (sSeq (sAsgO (dN mkLst aNil) 4)
 (sSeq (sFor (dRng1 (aCons (dC (.int 4)) aNil)) (dName 5)
 (sSeq (sAsg (d2 ixD (dVar 1) (d2 addD (dC (.int 12)) (dVar 5))) (dName 6))
 (sApp 4 (d2 addD (Zj.dSlS (dVar 3) oNone (oSome (dVar 6))) (d2 ixD (dVar 2) (d2 ixD (dVar 1) (d2 addD (dC (.int 16)) (dVar 5))))))))
 (sRetV 4))))))
def g_law_names : PF := runG 6 (t_law_names)
def t_law_alikeU0 : SF :=
 (sSeq (sIf (tDt truD (dN isiD (aCons (dVar 1) (aCons (dC (.ty "str")) aNil))))
 (sRet (dAndV (dN isiD (aCons (dVar 0) (aCons (dC (.ty "str")) aNil))) (d2 eqD (dVar 0) (dVar 1))))
 sNext)
 (sSeq (sIf (dNotT (tDt truD (dN isiD (aCons (dVar 1) (aCons (dC (.ty "tuple")) aNil)))))
 (sRet (dAndV (dCall 1 (g_law_is_integer) (aCons (dVar 0) aNil)) (d2 eqD (dVar 0) (dVar 1))))
 sNext)
 (sSeq (sIf (dOrT (dNotT (tDt truD (dN isiD (aCons (dVar 0) (aCons (dC (.ty "tuple")) aNil))))) (tDt blD (d2 neD (dN lenD (aCons (dVar 0) aNil)) (dN lenD (aCons (dVar 1) aNil)))))
 (sRet (dC (.bl false)))
 sNext)
 (sSeq (sFor (dRng1 (aCons (dN lenD (aCons (dVar 1) aNil)) aNil)) (dName 2)
 (sIf (dNotT (tDt truD Zq9.dNo))
 (sRet (dC (.bl false)))
 sNext))
 (sRet (dC (.bl true)))))))
def g_law_alikeU0 : PF := runG 1 (t_law_alikeU0)
def t_law_alikeU1 : SF :=
 (sSeq (sIf (tDt truD (dN isiD (aCons (dVar 1) (aCons (dC (.ty "str")) aNil))))
 (sRet (dAndV (dN isiD (aCons (dVar 0) (aCons (dC (.ty "str")) aNil))) (d2 eqD (dVar 0) (dVar 1))))
 sNext)
 (sSeq (sIf (dNotT (tDt truD (dN isiD (aCons (dVar 1) (aCons (dC (.ty "tuple")) aNil)))))
 (sRet (dAndV (dCall 1 (g_law_is_integer) (aCons (dVar 0) aNil)) (d2 eqD (dVar 0) (dVar 1))))
 sNext)
 (sSeq (sIf (dOrT (dNotT (tDt truD (dN isiD (aCons (dVar 0) (aCons (dC (.ty "tuple")) aNil))))) (tDt blD (d2 neD (dN lenD (aCons (dVar 0) aNil)) (dN lenD (aCons (dVar 1) aNil)))))
 (sRet (dC (.bl false)))
 sNext)
 (sSeq (sFor (dRng1 (aCons (dN lenD (aCons (dVar 1) aNil)) aNil)) (dName 2)
 (sIf (dNotT (tDt truD (dCall 2 (g_law_alikeU0) (aCons (d2 ixD (dVar 0) (dVar 2)) (aCons (d2 ixD (dVar 1) (dVar 2)) aNil)))))
 (sRet (dC (.bl false)))
 sNext))
 (sRet (dC (.bl true)))))))
def g_law_alikeU1 : PF := runG 1 (t_law_alikeU1)
def t_law_alikeU2 : SF :=
 (sSeq (sIf (tDt truD (dN isiD (aCons (dVar 1) (aCons (dC (.ty "str")) aNil))))
 (sRet (dAndV (dN isiD (aCons (dVar 0) (aCons (dC (.ty "str")) aNil))) (d2 eqD (dVar 0) (dVar 1))))
 sNext)
 (sSeq (sIf (dNotT (tDt truD (dN isiD (aCons (dVar 1) (aCons (dC (.ty "tuple")) aNil)))))
 (sRet (dAndV (dCall 1 (g_law_is_integer) (aCons (dVar 0) aNil)) (d2 eqD (dVar 0) (dVar 1))))
 sNext)
 (sSeq (sIf (dOrT (dNotT (tDt truD (dN isiD (aCons (dVar 0) (aCons (dC (.ty "tuple")) aNil))))) (tDt blD (d2 neD (dN lenD (aCons (dVar 0) aNil)) (dN lenD (aCons (dVar 1) aNil)))))
 (sRet (dC (.bl false)))
 sNext)
 (sSeq (sFor (dRng1 (aCons (dN lenD (aCons (dVar 1) aNil)) aNil)) (dName 2)
 (sIf (dNotT (tDt truD (dCall 2 (g_law_alikeU1) (aCons (d2 ixD (dVar 0) (dVar 2)) (aCons (d2 ixD (dVar 1) (dVar 2)) aNil)))))
 (sRet (dC (.bl false)))
 sNext))
 (sRet (dC (.bl true)))))))
def g_law_alikeU2 : PF := runG 1 (t_law_alikeU2)
def t_law_alikeU3 : SF :=
 (sSeq (sIf (tDt truD (dN isiD (aCons (dVar 1) (aCons (dC (.ty "str")) aNil))))
 (sRet (dAndV (dN isiD (aCons (dVar 0) (aCons (dC (.ty "str")) aNil))) (d2 eqD (dVar 0) (dVar 1))))
 sNext)
 (sSeq (sIf (dNotT (tDt truD (dN isiD (aCons (dVar 1) (aCons (dC (.ty "tuple")) aNil)))))
 (sRet (dAndV (dCall 1 (g_law_is_integer) (aCons (dVar 0) aNil)) (d2 eqD (dVar 0) (dVar 1))))
 sNext)
 (sSeq (sIf (dOrT (dNotT (tDt truD (dN isiD (aCons (dVar 0) (aCons (dC (.ty "tuple")) aNil))))) (tDt blD (d2 neD (dN lenD (aCons (dVar 0) aNil)) (dN lenD (aCons (dVar 1) aNil)))))
 (sRet (dC (.bl false)))
 sNext)
 (sSeq (sFor (dRng1 (aCons (dN lenD (aCons (dVar 1) aNil)) aNil)) (dName 2)
 (sIf (dNotT (tDt truD (dCall 2 (g_law_alikeU2) (aCons (d2 ixD (dVar 0) (dVar 2)) (aCons (d2 ixD (dVar 1) (dVar 2)) aNil)))))
 (sRet (dC (.bl false)))
 sNext))
 (sRet (dC (.bl true)))))))
def g_law_alikeU3 : PF := runG 1 (t_law_alikeU3)
def t_law_alikeU4 : SF :=
 (sSeq (sIf (tDt truD (dN isiD (aCons (dVar 1) (aCons (dC (.ty "str")) aNil))))
 (sRet (dAndV (dN isiD (aCons (dVar 0) (aCons (dC (.ty "str")) aNil))) (d2 eqD (dVar 0) (dVar 1))))
 sNext)
 (sSeq (sIf (dNotT (tDt truD (dN isiD (aCons (dVar 1) (aCons (dC (.ty "tuple")) aNil)))))
 (sRet (dAndV (dCall 1 (g_law_is_integer) (aCons (dVar 0) aNil)) (d2 eqD (dVar 0) (dVar 1))))
 sNext)
 (sSeq (sIf (dOrT (dNotT (tDt truD (dN isiD (aCons (dVar 0) (aCons (dC (.ty "tuple")) aNil))))) (tDt blD (d2 neD (dN lenD (aCons (dVar 0) aNil)) (dN lenD (aCons (dVar 1) aNil)))))
 (sRet (dC (.bl false)))
 sNext)
 (sSeq (sFor (dRng1 (aCons (dN lenD (aCons (dVar 1) aNil)) aNil)) (dName 2)
 (sIf (dNotT (tDt truD (dCall 2 (g_law_alikeU3) (aCons (d2 ixD (dVar 0) (dVar 2)) (aCons (d2 ixD (dVar 1) (dVar 2)) aNil)))))
 (sRet (dC (.bl false)))
 sNext))
 (sRet (dC (.bl true)))))))
def g_law_alikeU4 : PF := runG 1 (t_law_alikeU4)
def t_law_alike : SF :=
 (sSeq (sIf (tDt truD (dN isiD (aCons (dVar 1) (aCons (dC (.ty "str")) aNil))))
 (sRet (dAndV (dN isiD (aCons (dVar 0) (aCons (dC (.ty "str")) aNil))) (d2 eqD (dVar 0) (dVar 1))))
 sNext)
 (sSeq (sIf (dNotT (tDt truD (dN isiD (aCons (dVar 1) (aCons (dC (.ty "tuple")) aNil)))))
 (sRet (dAndV (dCall 1 (g_law_is_integer) (aCons (dVar 0) aNil)) (d2 eqD (dVar 0) (dVar 1))))
 sNext)
 (sSeq (sIf (dOrT (dNotT (tDt truD (dN isiD (aCons (dVar 0) (aCons (dC (.ty "tuple")) aNil))))) (tDt blD (d2 neD (dN lenD (aCons (dVar 0) aNil)) (dN lenD (aCons (dVar 1) aNil)))))
 (sRet (dC (.bl false)))
 sNext)
 (sSeq (sFor (dRng1 (aCons (dN lenD (aCons (dVar 1) aNil)) aNil)) (dName 2)
 (sIf (dNotT (tDt truD (dCall 2 (g_law_alikeU4) (aCons (d2 ixD (dVar 0) (dVar 2)) (aCons (d2 ixD (dVar 1) (dVar 2)) aNil)))))
 (sRet (dC (.bl false)))
 sNext))
 (sRet (dC (.bl true)))))))
def g_law_alike : PF := runG 1 (t_law_alike)
def t_law_join : SF :=
 (sRet (Zj.dM1 Zj.joinD (dC (.str ",")) (dLc (dItems (dVar 0)) (dName 1) dYes (dN Zj.strD (aCons (dVar 1) aNil)) [1])))
def g_law_join : PF := runG 1 (t_law_join)
def t_law_text_of : SF :=
 (sSeq (sIf (tDt blD (d2 eqD (d2 ixD (dVar 0) (dC (.int 0))) (dC (.str "erase"))))
 (sRet (d2 addD (d2 addD (dC (.str "erase ")) (d2 ixD (dVar 0) (dC (.int 1)))) (dC (.str ";"))))
 sNext)
 (sSeq (sAsgO (dN mkLst (aCons (d2 ixD (dVar 0) (dC (.int 0))) aNil)) 1)
 (sSeq (sIf (tDt blD (d2 eqD (d2 ixD (dVar 0) (dC (.int 0))) (dC (.str "picture"))))
 (sAsgO (d2 Zra.addL (Zq7.dAddO 1 (dN mkLst (aCons (dCall 1 (g_law_join) (aCons (d2 ixD (dVar 0) (dC (.int 1))) aNil)) aNil))) (dLc (dItems (d2 ixD (dVar 0) (dC (.int 2)))) (dName 3) dYes (d2 addD (d2 addD (d2 ixD (dVar 3) (dC (.int 0))) (dC (.str "="))) (dCall 1 (g_law_join) (aCons (d2 ixD (dVar 3) (dC (.int 1))) aNil))) [3])) 1)
 sNext)
 (sSeq (sIf (tDt blD (d2 eqD (d2 ixD (dVar 0) (dC (.int 0))) (dC (.str "put"))))
 (sApp 1 (d2 addD (d2 addD (d2 ixD (dVar 0) (dC (.int 1))) (dC (.str "="))) (dCall 1 (g_law_join) (aCons (d2 ixD (dVar 0) (dC (.int 2))) aNil))))
 sNext)
 (sSeq (sIf (tDt blD (d2 eqD (d2 ixD (dVar 0) (dC (.int 0))) (dC (.str "cap"))))
 (sAsgO (Zra.addOL 1 (dN mkLst (aCons (dN Zj.strD (aCons (d2 ixD (dVar 0) (dC (.int 1))) aNil)) (aCons (dN Zj.strD (aCons (d2 ixD (dVar 0) (dC (.int 2))) aNil)) aNil)))) 1)
 sNext)
 (sSeq (sApp 1 (dC (.str "/")))
 (sSeq (sFor (dItems (d2 ixD (dVar 0) (d1 negD (dC (.int 1))))) (dName 2)
 (sApp 1 (d2 addD (d2 addD (d2 addD (d2 addD (dN Zj.strD (aCons (d2 ixD (dVar 2) (dC (.int 0))) aNil)) (dC (.str ":"))) (dN Zj.strD (aCons (d2 ixD (dVar 2) (dC (.int 1))) aNil))) (dC (.str ","))) (dN Zj.strD (aCons (d2 ixD (dVar 2) (dC (.int 2))) aNil)))))
 (sFrz [1] (sRet (d2 addD (Zj.dM1 Zj.joinD (dC (.str " ")) (dVar 1)) (dC (.str ";"))))))))))))
def g_law_text_of : PF := runG 3 (t_law_text_of)
def t_law_sizes : SF :=
 (sRetO (dN mkLst (aCons (dC (.int 5)) (aCons (dC (.int 4)) (aCons (dC (.int 4)) (aCons (dC (.int 4)) (aCons (dC (.int 3)) (aCons (dC (.int 900)) (aCons (dC (.int 90)) (aCons (dC (.int 3)) (aCons (dC (.int 900)) (aCons (dC (.int 5)) (aCons (dC (.int 5)) (aCons (dC (.int 5)) (aCons (dC (.int 5)) (aCons (dC (.int 4)) (aCons (dC (.int 40)) aNil)))))))))))))))))
def g_law_sizes : PF := runG 0 (t_law_sizes)
def t_law_small : SF :=
 (sSeq (sAsg (dN tupleD (aCons (dLc (dRng1 (aCons (d2 ixD (dVar 0) (d2 addD (dVar 1) (dC (.int 3)))) aNil)) (dName 7) dYes (d2 addD (d2 addD (dC (.int 1)) (d2 ixD (dVar 0) (d2 addD (dVar 1) (dC (.int 5))))) (d2 mulD (dVar 7) (d2 addD (d2 ixD (dVar 0) (d2 addD (dVar 1) (dC (.int 6)))) (dC (.int 1))))) [7]) aNil)) (dName 4))
 (sSeq (sAsg (dN tupleD (aCons (dLc (dRng1 (aCons (d2 ixD (dVar 0) (d2 addD (dVar 1) (dC (.int 4)))) aNil)) (dName 7) dYes (d2 addD (d2 addD (dC (.int 2)) (d2 ixD (dVar 0) (d2 addD (dVar 1) (dC (.int 6))))) (d2 mulD (dC (.int 3)) (dVar 7))) [7]) aNil)) (dName 5))
 (sSeq (sAsgO (dN mkLst aNil) 6)
 (sSeq (sFor (dRng1 (aCons (d2 ixD (dVar 0) (d2 addD (dVar 1) (dC (.int 7)))) aNil)) (dName 7)
 (sSeq (sAsg (d2 ixD (dVar 0) (d2 addD (d2 addD (dVar 1) (dC (.int 9))) (d2 mulD (dC (.int 2)) (dVar 7)))) (dName 8))
 (sApp 6 (dN mkTup (aCons (d2 addD (d2 addD (dC (.int 1)) (d2 ixD (dVar 0) (d2 addD (dVar 1) (dC (.int 8))))) (d2 mulD (dVar 7) (d2 addD (d2 ixD (dVar 0) (d2 addD (dVar 1) (dC (.int 6)))) (dC (.int 1))))) (aCons (dVar 8) (aCons (d2 addD (d2 addD (dVar 8) (dC (.int 1))) (d2 ixD (dVar 0) (d2 addD (d2 addD (dVar 1) (dC (.int 10))) (d2 mulD (dC (.int 2)) (dVar 7))))) aNil)))))))
 (sSeq (sAsg (d2 ixD (dVar 3) (d2 ixD (dVar 0) (d2 addD (dVar 1) (dC (.int 1))))) (dName 9))
 (sSeq (sAsg (d2 ixD (dVar 3) (d2 ixD (dVar 0) (d2 addD (dVar 1) (dC (.int 2))))) (dName 10))
 (sSeq (sIf (tDt truD (dVar 2))
 (sSeq (sAsg (dN tupleD (aCons (dLc (dRng1 (aCons (d2 addD (d2 ixD (dVar 0) (d2 addD (dVar 1) (dC (.int 13)))) (dC (.int 1))) aNil)) (dName 7) dYes (d2 modD (dN intD (aCons (d2 addD (d2 ixD (dVar 0) (d2 addD (dVar 1) (dC (.int 14)))) (d2 mulD (dC (.int 13)) (dVar 7))) aNil)) (dC (.int 41))) [7]) aNil)) (dName 11))
 (sSeq (sAsg (dN mkLst aNil) (dName 12))
 (sSeq (sIf (tDt blD (d2 gtD (d2 ixD (dVar 0) (d2 addD (dVar 1) (dC (.int 3)))) (dC (.int 0))))
 (sAsg (dN mkLst (aCons (dN mkTup (aCons (dVar 9) (aCons (dVar 4) aNil))) aNil)) (dName 12))
 sNext)
 (sSeq (sIf (dAndT (tDt blD (d2 gtD (d2 ixD (dVar 0) (d2 addD (dVar 1) (dC (.int 3)))) (dC (.int 1)))) (tDt blD (d2 neD (dVar 9) (dVar 10))))
 (sAsg (dN Zrb.sortDatD (aCons (dN mkLst (aCons (dN mkTup (aCons (dVar 9) (aCons (dVar 4) aNil))) (aCons (dN mkTup (aCons (dVar 10) (aCons (dVar 5) aNil))) aNil))) aNil)) (dName 12))
 sNext)
 (sFrz [6] (sRet (dN mkTup (aCons (dC (.str "picture")) (aCons (dVar 11) (aCons (dN tupleD (aCons (dVar 12) aNil)) (aCons (dN tupleD (aCons (dVar 6) aNil)) aNil)))))))))))
 sNext)
 (sSeq (sIf (tDt blD (d2 ltD (d2 ixD (dVar 0) (dVar 1)) (dC (.int 2))))
 (sFrz [6] (sRet (dN mkTup (aCons (dC (.str "put")) (aCons (dVar 9) (aCons (dVar 4) (aCons (dN tupleD (aCons (dVar 6) aNil)) aNil)))))))
 sNext)
 (sSeq (sIf (tDt blD (d2 eqD (d2 ixD (dVar 0) (dVar 1)) (dC (.int 2))))
 (sRet (dN mkTup (aCons (dC (.str "erase")) (aCons (dVar 9) aNil))))
 sNext)
 (sSeq (sIf (tDt blD (d2 eqD (d2 ixD (dVar 0) (dVar 1)) (dC (.int 3))))
 (sFrz [6] (sRet (dN mkTup (aCons (dC (.str "deal")) (aCons (dN tupleD (aCons (dVar 6) aNil)) aNil)))))
 sNext)
 (sFrz [6] (sRet (dN mkTup (aCons (dC (.str "cap")) (aCons (d2 ixD (dVar 0) (d2 addD (dVar 1) (dC (.int 13)))) (aCons (d2 ixD (dVar 0) (d2 addD (dVar 1) (dC (.int 14)))) (aCons (dN tupleD (aCons (dVar 6) aNil)) aNil)))))))))))))))))
def g_law_small : PF := runG 9 (t_law_small)
def t_law_other : SF :=
 (sSeq (sAsg (dN mkLst (aCons (dC (.str "")) (aCons (dC (.str ";")) (aCons (dC (.str "picture")) (aCons (dC (.str "picture ;")) (aCons (dC (.str "picture /;")) (aCons (dC (.str "picture 1,1 /")) (aCons (dC (.str "picture 1,1 / ;")) (aCons (dC (.str "erase")) (aCons (dC (.str "erase ;")) (aCons (dC (.str "x")) aNil))))))))))) (dName 1))
 (sSeq (sAsg (d2 addD (dVar 1) (dN mkLst (aCons (dC (.str "erase A;")) (aCons (dC (.str "erase a")) (aCons (dC (.str "deal;")) (aCons (dC (.str "put a= /")) (aCons (dC (.str "put a=1,1 /;")) (aCons (dC (.str "cap 0 /;")) aNil)))))))) (dName 1))
 (sRet (d2 ixD (dVar 1) (d2 modD (dN intD (aCons (dVar 0) aNil)) (dC (.int 16)))))))
def g_law_other : PF := runG 1 (t_law_other)
def t_law_string : SF :=
 (sSeq (sAsg (dCall 2 (g_law_draws) (aCons (dVar 0) (aCons (d2 addD (d2 addD (dN mkLst (aCons (dC (.int 16)) (aCons (dC (.int 840)) (aCons (dC (.int 2)) (aCons (dC (.int 2)) (aCons (dC (.int 16)) aNil)))))) (dCall 0 (g_law_sizes) aNil)) (d2 mulD (dN mkLst (aCons (dC (.int 94)) aNil)) (dC (.int 5)))) aNil))) (dName 3))
 (sSeq (sAsg (dOrV (dChain leD ltD (dC (.int 6)) (d2 ixD (dVar 3) (dC (.int 0))) (dC (.int 10))) (dOrV (dAndV (d2 isD (dVar 2) (dC .non)) (d2 ltD (d2 ixD (dVar 3) (dC (.int 0))) (dC (.int 10)))) (dAndV (d2 gtD (d2 ixD (dVar 3) (dC (.int 0))) (dC (.int 9))) (d2 eqD (d2 ixD (dVar 3) (dC (.int 2))) (dC (.int 1)))))) (dName 4))
 (sSeq (sAsg (dCall 4 (g_law_small) (aCons (dVar 3) (aCons (dC (.int 5)) (aCons (dVar 4) (aCons (dVar 1) aNil))))) (dName 5))
 (sSeq (sAsg (dCall 1 (g_law_text_of) (aCons (dVar 5) aNil)) (dName 6))
 (sSeq (sIf (tDt blD (d2 ltD (d2 ixD (dVar 3) (dC (.int 0))) (dC (.int 10))))
 (sRet (dN mkTup (aCons (dVar 6) (aCons (dVar 5) aNil))))
 sNext)
 (sSeq (sIf (tDt blD (d2 ltD (d2 ixD (dVar 3) (dC (.int 0))) (dC (.int 13))))
 (sSeq (sAsg (dC (.str "")) (dName 7))
 (sSeq (sIf (dAndT (tDt blD (d2 eqD (d2 ixD (dVar 3) (dC (.int 3))) (dC (.int 1)))) (dAndT (tDt blD (d2 isntD (dVar 2) (dC .non))) (tDt blD (d2 (Zj.onT Zj.ninTf) (dC (.str ";")) (dVar 2)))))
 (sAsg (dVar 2) (dName 7))
 sNext)
 (sSeq (sAsg (d2 modD (dN intD (aCons (d2 ixD (dVar 3) (dC (.int 1))) aNil)) (dN lenD (aCons (dVar 6) aNil))) (dName 8))
 (sRet (dN mkTup (aCons (d2 addD (Zj.dSlS (dVar 6) oNone (oSome (dVar 8))) (Zj.dSlS (dVar 7) (oSome (dVar 8)) oNone)) (aCons (dC .non) aNil)))))))
 sNext)
 (sSeq (sIf (tDt blD (d2 eqD (d2 ixD (dVar 3) (dC (.int 0))) (dC (.int 13))))
 (sRet (dN mkTup (aCons (dC (.str "")) (aCons (dC .non) aNil))))
 sNext)
 (sSeq (sIf (tDt blD (d2 eqD (d2 ixD (dVar 3) (dC (.int 0))) (dC (.int 14))))
 (sRet (dN mkTup (aCons (dCall 1 (g_law_other) (aCons (d2 ixD (dVar 3) (dC (.int 4))) aNil)) (aCons (dC .non) aNil))))
 sNext)
 (sRet (dN mkTup (aCons (d1 (Zra.replD (Str.ofString ";") (Str.ofString ":")) (Zj.dM1 Zj.joinD (dC (.str "")) (dLc (dRng1 (aCons (dC (.int 5)) aNil)) (dName 9) dYes (dCall 1 (g_law_sign) (aCons (d2 ixD (dVar 3) (d2 addD (dC (.int 20)) (dVar 9))) aNil)) [9]))) (aCons (dC .non) aNil))))))))))))
def g_law_string : PF := runG 7 (t_law_string)
def t_law_counted : SF :=
 (sSeq (sAsgO (dN mkLst aNil) 1)
 (sSeq (sAsg (dC (.int 0)) (dName 2))
 (sSeq (sAsg (dC (.bl false)) (dName 3))
 (sSeq (sFor (dRng1 (aCons (dN lenD (aCons (dVar 0) aNil)) aNil)) (dName 4)
 (sSeq (sAsg (d2 ixD (d2 ixD (dVar 0) (dVar 4)) (dC (.int 1))) (dName 5))
 (sIf (tDt blD (d2 isD (dVar 5) (dC .non)))
 (sAsg (dC (.bl false)) (dName 3))
 (sIf (tDt blD (d2 eqD (d2 ixD (dVar 5) (dC (.int 0))) (dC (.str "picture"))))
 (sSeq (sAsgO (dN mkLst (aCons (dVar 5) aNil)) 1)
 (sSeq (sAsg (d2 addD (dVar 4) (dC (.int 1))) (dName 2))
 (sAsg (dC (.bl true)) (dName 3))))
 (sIf (tDt truD (dVar 3))
 (sSeq (sApp 1 (dVar 5))
 (sAsg (d2 addD (dVar 4) (dC (.int 1))) (dName 2)))
 sNext)))))
 (sFrz [1] (sRet (dN mkTup (aCons (dN tupleD (aCons (dVar 1) aNil)) (aCons (dVar 2) aNil)))))))))
def g_law_counted : PF := runG 5 (t_law_counted)
def t_law_reads : SF :=
 (sSeq (sAsg (dCall 1 (g_law_counted) (aCons (dVar 1) aNil)) (dName 2))
 (sSeq (sAsgO (dCallO 1 (g_read_log) (aCons (dVar 0) aNil)) 3)
 (sSeq (sIf (peekT (dOrT (dNotT (tDt truD (dN isiD (aCons (dVar 3) (aCons (dC (.ty "list")) aNil))))) (dNotT (tDt truD (dCall 2 (g_law_alike) (aCons (dN tupleD (aCons (dVar 3) aNil)) (aCons (d2 ixD (dVar 2) (dC (.int 0))) aNil)))))))
 (sRet (dC (.bl false)))
 sNext)
 (sSeq (sApp 3 (dN mkTup (aCons (dC (.str "erase")) (aCons (dC (.str "spoilt")) aNil))))
 (sSeq (sAsg (dCall 1 (g_log_end) (aCons (dVar 0) aNil)) (dName 4))
 (sRet (dAndV (dCall 1 (g_law_is_integer) (aCons (dVar 4) aNil)) (dAndV (d2 eqD (dVar 4) (d2 ixD (dVar 2) (dC (.int 1)))) (d2 eqD (dVar 0) (dLc (dItems (dVar 1)) (dName 5) dYes (d2 ixD (dVar 5) (dC (.int 0))) [5]))))))))))
def g_law_reads : PF := runG 4 (t_law_reads)
def t_law : SF :=
 (sSeq (sAsg (dCall 1 (g_law_names) (aCons (dCall 2 (g_law_cell) (aCons (dVar 0) (aCons (dC (.int 0)) aNil))) aNil)) (dName 1))
 (sSeq (sAsgO (dN mkLst aNil) 2)
 (sSeq (sAsg (dC .non) (dName 3))
 (sSeq (sFor (dRng1 (aCons (dN minD (aCons (dC (.int 9)) (aCons (dN maxD (aCons (dC (.int 3)) (aCons (d2 subD (dN lenD (aCons (dVar 0) aNil)) (dC (.int 1))) aNil))) aNil))) aNil)) (dName 4)
 (sSeq (sApp 2 (dCall 3 (g_law_string) (aCons (d2 addD (dCall 2 (g_law_cell) (aCons (dVar 0) (aCons (d2 addD (dC (.int 1)) (dVar 4)) aNil))) (d2 mulD (dC (.int 5)) (dVar 4))) (aCons (dVar 1) (aCons (dVar 3) aNil)))))
 (sAsg (peekF (d2 ixD (d2 ixD (dVar 2) (dVar 4)) (dC (.int 0)))) (dName 3))))
 (sSeq (sAsg (dCall 2 (g_law_draws) (aCons (d2 addD (dCall 2 (g_law_cell) (aCons (dVar 0) (aCons (dC (.int 10)) aNil))) (dC (.int 3))) (aCons (d2 addD (dN mkLst (aCons (dC (.int 840)) (aCons (dC (.int 8)) (aCons (dC (.int 840)) aNil)))) (dCall 0 (g_law_sizes) aNil)) aNil))) (dName 5))
 (sSeq (sIf (tDt blD (d2 eqD (d2 ixD (dVar 5) (dC (.int 1))) (dC (.int 7))))
 (sFrz [2] (sAsg (d2 addD (dVar 2) (d2 mulD (dN mkLst (aCons (d2 ixD (dVar 2) (d2 modD (dN intD (aCons (d2 ixD (dVar 5) (dC (.int 2))) aNil)) (dN lenD (aCons (dVar 2) aNil)))) aNil)) (dC (.int 90)))) (dName 2)))
 sNext)
 (sSeq (sFrz [2] (sAsgO (dLc (dItems (dVar 2)) (dName 9) dYes (d2 ixD (dVar 9) (dC (.int 0))) [9]) 6))
 (sSeq (sIf (peekT (dOrT (dNotT (tDt truD (dCall 2 (g_law_reads) (aCons (dVar 6) (aCons (dVar 2) aNil))))) (dNotT (tDt truD (dCall 2 (g_law_reads) (aCons (dVar 6) (aCons (dVar 2) aNil)))))))
 (sRet (dC (.bl false)))
 sNext)
 (sSeq (sAsg (peekF (d2 modD (dN intD (aCons (d2 ixD (dVar 5) (dC (.int 0))) aNil)) (d2 addD (dN lenD (aCons (dVar 2) aNil)) (dC (.int 1))))) (dName 7))
 (sSeq (sIf (peekT (dNotT (tDt truD (dCall 2 (g_law_reads) (aCons (dLc (dItems (dSl (dVar 2) oNone (oSome (dVar 7)))) (dName 9) dYes (d2 ixD (dVar 9) (dC (.int 0))) [9]) (aCons (dSl (dVar 2) oNone (oSome (dVar 7))) aNil))))))
 (sRet (dC (.bl false)))
 sNext)
 (sSeq (sAsg (dCall 4 (g_law_small) (aCons (dVar 5) (aCons (dC (.int 3)) (aCons (dC (.bl true)) (aCons (dVar 1) aNil))))) (dName 8))
 (sSeq (sApp 6 (dCall 1 (g_law_text_of) (aCons (dVar 8) aNil)))
 (sRet (peekF (dCall 2 (g_law_reads) (aCons (dVar 6) (aCons (d2 addD (dVar 2) (dN mkLst (aCons (dN mkTup (aCons (dCall 1 (g_law_text_of) (aCons (dVar 8) aNil)) (aCons (dVar 8) aNil))) aNil))) aNil)))))))))))))))))
def g_law : PF := runG 9 (t_law)
structure Txt (K : PySem.W.Frag) (mg : Str → Option Value) where
  c : Cs
  m_abs : mg "abs" = none
  m_all : mg "all" = none
  m_bool : mg "bool" = none
  m_int : mg "int" = none
  m_isinstance : mg "isinstance" = none
  m_len : mg "len" = none
  m_list : mg "list" = none
  m_max : mg "max" = none
  m_min : mg "min" = none
  m_range : mg "range" = none
  m_reversed : mg "reversed" = none
  m_sorted : mg "sorted" = none
  m_str : mg "str" = none
  m_tuple : mg "tuple" = none
  m_zip : mg "zip" = none
  f_is_name : Addr
  fd_is_name : FuncData
  F_is_name : Fun K "is_name" "is_name" s_is_name f_is_name fd_is_name
  b_is_name : Binds K fd_is_name ["word"] []
  g_is_name : mg "is_name" = some (.ref f_is_name)
  f_is_number : Addr
  fd_is_number : FuncData
  F_is_number : Fun K "is_number" "is_number" s_is_number f_is_number fd_is_number
  b_is_number : Binds K fd_is_number ["word"] []
  g_is_number : mg "is_number" = some (.ref f_is_number)
  f_read_joined : Addr
  fd_read_joined : FuncData
  F_read_joined : Fun K "read_joined" "read_joined" s_read_joined f_read_joined fd_read_joined
  b_read_joined : Binds K fd_read_joined ["word"] []
  g_read_joined : mg "read_joined" = some (.ref f_read_joined)
  f_read_record : Addr
  fd_read_record : FuncData
  F_read_record : Fun K "read_record" "read_record" s_read_record f_read_record fd_read_record
  b_read_record : Binds K fd_read_record ["text"] []
  g_read_record : mg "read_record" = some (.ref f_read_record)
  f_read_log : Addr
  fd_read_log : FuncData
  F_read_log : Fun K "read_log" "read_log" s_read_log f_read_log fd_read_log
  b_read_log : Binds K fd_read_log ["log"] []
  g_read_log : mg "read_log" = some (.ref f_read_log)
  f_log_end : Addr
  fd_log_end : FuncData
  F_log_end : Fun K "log_end" "log_end" s_log_end f_log_end fd_log_end
  b_log_end : Binds K fd_log_end ["log"] []
  g_log_end : mg "log_end" = some (.ref f_log_end)
  f_read_picture : Addr
  fd_read_picture : FuncData
  F_read_picture : Fun K "_read_picture" "_read_picture" s_read_picture f_read_picture fd_read_picture
  b_read_picture : Binds K fd_read_picture ["words"] []
  g_read_picture : mg "_read_picture" = some (.ref f_read_picture)
  f_read_put : Addr
  fd_read_put : FuncData
  F_read_put : Fun K "_read_put" "_read_put" s_read_put f_read_put fd_read_put
  b_read_put : Binds K fd_read_put ["words"] []
  g_read_put : mg "_read_put" = some (.ref f_read_put)
  f_read_deal : Addr
  fd_read_deal : FuncData
  F_read_deal : Fun K "_read_deal" "_read_deal" s_read_deal f_read_deal fd_read_deal
  b_read_deal : Binds K fd_read_deal ["words"] []
  g_read_deal : mg "_read_deal" = some (.ref f_read_deal)
  f_read_cap : Addr
  fd_read_cap : FuncData
  F_read_cap : Fun K "_read_cap" "_read_cap" s_read_cap f_read_cap fd_read_cap
  b_read_cap : Binds K fd_read_cap ["words"] []
  g_read_cap : mg "_read_cap" = some (.ref f_read_cap)
  f_read_name : Addr
  fd_read_name : FuncData
  F_read_name : Fun K "_read_name" "_read_name" s_read_name f_read_name fd_read_name
  b_read_name : Binds K fd_read_name ["word"] []
  g_read_name : mg "_read_name" = some (.ref f_read_name)
  f_read_wardens : Addr
  fd_read_wardens : FuncData
  F_read_wardens : Fun K "_read_wardens" "_read_wardens" s_read_wardens f_read_wardens fd_read_wardens
  b_read_wardens : Binds K fd_read_wardens ["words"] []
  g_read_wardens : mg "_read_wardens" = some (.ref f_read_wardens)
  f_read_warden : Addr
  fd_read_warden : FuncData
  F_read_warden : Fun K "_read_warden" "_read_warden" s_read_warden f_read_warden fd_read_warden
  b_read_warden : Binds K fd_read_warden ["word"] []
  g_read_warden : mg "_read_warden" = some (.ref f_read_warden)
  f_rise : Addr
  fd_rise : FuncData
  F_rise : Fun K "_rise" "_rise" s_rise f_rise fd_rise
  b_rise : Binds K fd_rise ["items"] []
  g_rise : mg "_rise" = some (.ref f_rise)
  f_count : Addr
  fd_count : FuncData
  F_count : Fun K "_count" "_count" s_count f_count fd_count
  b_count : Binds K fd_count ["numbers"] []
  g_count : mg "_count" = some (.ref f_count)
  f_last_picture : Addr
  fd_last_picture : FuncData
  F_last_picture : Fun K "_last_picture" "_last_picture" s_last_picture f_last_picture fd_last_picture
  b_last_picture : Binds K fd_last_picture ["log"] []
  g_last_picture : mg "_last_picture" = some (.ref f_last_picture)
  f_law_cell : Addr
  fd_law_cell : FuncData
  F_law_cell : Fun K "_law_cell" "_law_cell" s_law_cell f_law_cell fd_law_cell
  b_law_cell : Binds K fd_law_cell ["script", "k"] []
  g_law_cell : mg "_law_cell" = some (.ref f_law_cell)
  f_law_draws : Addr
  fd_law_draws : FuncData
  F_law_draws : Fun K "_law_draws" "_law_draws" s_law_draws f_law_draws fd_law_draws
  b_law_draws : Binds K fd_law_draws ["cell", "sizes"] []
  g_law_draws : mg "_law_draws" = some (.ref f_law_draws)
  f_law_sign : Addr
  fd_law_sign : FuncData
  F_law_sign : Fun K "_law_sign" "_law_sign" s_law_sign f_law_sign fd_law_sign
  b_law_sign : Binds K fd_law_sign ["number"] []
  g_law_sign : mg "_law_sign" = some (.ref f_law_sign)
  f_law_is_integer : Addr
  fd_law_is_integer : FuncData
  F_law_is_integer : Fun K "_law_is_integer" "_law_is_integer" s_law_is_integer f_law_is_integer fd_law_is_integer
  b_law_is_integer : Binds K fd_law_is_integer ["actual"] []
  g_law_is_integer : mg "_law_is_integer" = some (.ref f_law_is_integer)
  f_law_names : Addr
  fd_law_names : FuncData
  F_law_names : Fun K "_law_names" "_law_names" s_law_names f_law_names fd_law_names
  b_law_names : Binds K fd_law_names ["cell"] []
  g_law_names : mg "_law_names" = some (.ref f_law_names)
  f_law_alike : Addr
  fd_law_alike : FuncData
  F_law_alike : Fun K "_law_alike" "_law_alike" s_law_alike f_law_alike fd_law_alike
  b_law_alike : Binds K fd_law_alike ["actual", "due"] []
  g_law_alike : mg "_law_alike" = some (.ref f_law_alike)
  f_law_join : Addr
  fd_law_join : FuncData
  F_law_join : Fun K "_law_join" "_law_join" s_law_join f_law_join fd_law_join
  b_law_join : Binds K fd_law_join ["numbers"] []
  g_law_join : mg "_law_join" = some (.ref f_law_join)
  f_law_text_of : Addr
  fd_law_text_of : FuncData
  F_law_text_of : Fun K "_law_text_of" "_law_text_of" s_law_text_of f_law_text_of fd_law_text_of
  b_law_text_of : Binds K fd_law_text_of ["record"] []
  g_law_text_of : mg "_law_text_of" = some (.ref f_law_text_of)
  f_law_sizes : Addr
  fd_law_sizes : FuncData
  F_law_sizes : Fun K "_law_sizes" "_law_sizes" s_law_sizes f_law_sizes fd_law_sizes
  b_law_sizes : Binds K fd_law_sizes [] []
  g_law_sizes : mg "_law_sizes" = some (.ref f_law_sizes)
  f_law_small : Addr
  fd_law_small : FuncData
  F_law_small : Fun K "_law_small" "_law_small" s_law_small f_law_small fd_law_small
  b_law_small : Binds K fd_law_small ["row", "k", "is_picture", "names"] []
  g_law_small : mg "_law_small" = some (.ref f_law_small)
  f_law_other : Addr
  fd_law_other : FuncData
  F_law_other : Fun K "_law_other" "_law_other" s_law_other f_law_other fd_law_other
  b_law_other : Binds K fd_law_other ["number"] []
  g_law_other : mg "_law_other" = some (.ref f_law_other)
  f_law_string : Addr
  fd_law_string : FuncData
  F_law_string : Fun K "_law_string" "_law_string" s_law_string f_law_string fd_law_string
  b_law_string : Binds K fd_law_string ["cell", "names", "before"] []
  g_law_string : mg "_law_string" = some (.ref f_law_string)
  f_law_counted : Addr
  fd_law_counted : FuncData
  F_law_counted : Fun K "_law_counted" "_law_counted" s_law_counted f_law_counted fd_law_counted
  b_law_counted : Binds K fd_law_counted ["strings"] []
  g_law_counted : mg "_law_counted" = some (.ref f_law_counted)
  f_law_reads : Addr
  fd_law_reads : FuncData
  F_law_reads : Fun K "_law_reads" "_law_reads" s_law_reads f_law_reads fd_law_reads
  b_law_reads : Binds K fd_law_reads ["handed", "strings"] []
  g_law_reads : mg "_law_reads" = some (.ref f_law_reads)
  f_law : Addr
  fd_law : FuncData
  F_law : Fun K "law" "law" s_law f_law fd_law
  b_law : Binds K fd_law ["script"] []
  g_law : mg "law" = some (.ref f_law)
section
variable {P : Program} {w : World} {K : PySem.W.Frag} {mg : Str → Option Value} {base : Heap}
theorem sc_is_name : FnScope N_is_name ["word"] (defScope s_is_name) := ⟨rfl, rfl, rfl, by decide +kernel, rfl, by decide +kernel, by decide +kernel⟩
theorem ok_is_name (T : Txt K mg) : FnOk P w K mg base CX0 1 T.f_is_name T.fd_is_name ["word"] (spG K 1 (g_is_name)) := by
  refine fnG (m := 1) T.F_is_name sc_is_name rfl rfl (fun cdv A outer s H E hr => ?_)
  have hu := hr.units
  refine ⟨_, (pss_one (ps_ret (pe_and (pe_chain op_le op_le pe_int (pe_callB call_lenA (by rfl) T.m_len bt_len (pa_cons (pv 0) pa_nil)) pe_int) (pe_one (pe_callB (cr_all rfl) (by rfl) T.m_all bt_all (pa_cons (pe_lc (own := [("char", 1)]) (g := (gName 1)) (tt := tYes) (te := (tOrV (tChain Zj.rLeT Zj.rLeT (tC (.str "a")) (tVar 1) (tC (.str "z"))) (tChain Zj.rLeT Zj.rLeT (tC (.str "0")) (tVar 1) (tC (.str "9"))))) rfl sc_is_name.nd (pi_str (pv 0)) (blkOk_by (N := N_is_name) (sc := defScope s_is_name) (by decide +kernel)) (fun _ _ _ _ _ => (pg_name (i := 1) sc_is_name.nd rfl (by first | exact Or.inl rfl | exact Or.inr rfl))) (fun _ _ _ _ _ => pts_nil) (fun _ _ _ _ _ => (pe_or (pe_chain op_le_str op_le_str pe_str (pv 1) pe_str) (pe_one (pe_chain op_le_str op_le_str pe_str (pv 1) pe_str))))) pa_nil)))))), ?_⟩
  exact ((sr_ret (er_and (er_chain rr_le rr_le er_int (er_n rc_len (ar_cons (er_var 0) ar_nil)) er_int) (er_n rc_all (ar_cons (er_of_eo (eo_lc (vs := [1]) (Zra.ir_str (er_var 0)) (grc_name (j := 1) (by decide)) tr_yes (er_or (er_chain Zj.rr_leT Zj.rr_leT er_str (er_var 1) er_str) (er_chain Zj.rr_leT Zj.rr_leT er_str (er_var 1) er_str)))) ar_nil)))) : SR K _ (t_is_name))
theorem sc_is_number : FnScope N_is_number ["word"] (defScope s_is_number) := ⟨rfl, rfl, rfl, by decide +kernel, rfl, by decide +kernel, by decide +kernel⟩
theorem ok_is_number (T : Txt K mg) : FnOk P w K mg base CX0 1 T.f_is_number T.fd_is_number ["word"] (spG K 1 (g_is_number)) := by
  refine fnG (m := 0) T.F_is_number sc_is_number rfl rfl (fun cdv A outer s H E hr => ?_)
  have hu := hr.units
  refine ⟨_, (pss_one (ps_ret (pe_and (pe_m0 PySem.F.slot_str_isdigit PySem.F.type_str_isdigit mt_isdigit (pv 0)) (pe_one (pe_or (pe_cmpR (op_eqD hu) (pv 0) pe_str (nomark _)) (pe_one (pe_not (pe_m1 PySem.F.slot_str_startswith PySem.F.type_str_startswith mt_startswith (pv 0) pe_str)))))))), ?_⟩
  exact ((sr_ret (er_and (Zj.er_m0 Zj.rm_isdigit (er_var 0)) (er_or (er_2 rr_eq (er_var 0) er_str) (er_not (Zj.er_m1 Zj.rm_starts (er_var 0) er_str))))) : SR K _ (t_is_number))
theorem sc_read_joined : FnScope N_read_joined ["word"] (defScope s_read_joined) := ⟨rfl, rfl, rfl, by decide +kernel, rfl, by decide +kernel, by decide +kernel⟩
theorem ok_read_joined (T : Txt K mg) : FnOk P w K mg base CX0 2 T.f_read_joined T.fd_read_joined ["word"] (spG K 1 (g_read_joined)) := by
  have G_is_number := ok_is_number (P := P) (w := w) (base := base) T
  refine fnG (m := 2) T.F_read_joined sc_read_joined rfl rfl (fun cdv A outer s H E hr => ?_)
  have hu := hr.units
  refine ⟨_, (pss_cons (ps_set (i := 1) sc_read_joined.nd rfl (by first | exact Or.inl rfl | exact Or.inr rfl) (pe_m1 PySem.F.slot_str_split PySem.F.type_str_split mt_split (pv 0) pe_str))
 (pss_one (ps_ret (pe_ifExp (pt_truth (pe_callB (cr_all rfl) (by rfl) T.m_all bt_all (pa_cons (pe_lc (own := [("part", 2)]) (g := (gName 2)) (tt := tYes) (te := (tCall (spG K 1 (g_is_number)) [] E0 (tCons (tVar 2) tNil))) rfl sc_read_joined.nd (pi_seq (pv 1)) (blkOk_by (N := N_read_joined) (sc := defScope s_read_joined) (by decide +kernel)) (fun _ _ _ _ _ => (pg_name (i := 2) sc_read_joined.nd rfl (by first | exact Or.inl rfl | exact Or.inr rfl))) (fun _ _ _ _ _ => pts_nil) (fun _ _ _ _ _ => (pe_call G_is_number (hr.mono (by decide)) (by rfl) T.g_is_number T.F_is_number.kp T.b_is_number .nil pass0 (pa_cons (pv 2) pa_nil)))) pa_nil)) (fun _ => rfl)) (pe_lc (own := [("part", 2)]) (g := (gName 2)) (tt := tYes) (te := (tCB Zj.rIntS (tCons (tVar 2) tNil))) rfl sc_read_joined.nd (pi_seq (pv 1)) (blkOk_by (N := N_read_joined) (sc := defScope s_read_joined) (by decide +kernel)) (fun _ _ _ _ _ => (pg_name (i := 2) sc_read_joined.nd rfl (by first | exact Or.inl rfl | exact Or.inr rfl))) (fun _ _ _ _ _ => pts_nil) (fun _ _ _ _ _ => (pe_callTy call_int_str (by rfl) T.m_int bt_int (pa_cons (pv 2) pa_nil)))) pe_non)))), ?_⟩
  exact ((sr_seq (sr_asg (Zj.er_m1 Zj.rm_split (er_var 0) er_str) (gr'_name 1))
 (sr_ret (er_if (tr_tru (er_n rc_all (ar_cons (er_of_eo (eo_lc (vs := [2]) (ir_seq (er_var 1)) (grc_name (j := 2) (by decide)) tr_yes (er_call (ar_cons (er_var 2) ar_nil)))) ar_nil))) (er_of_eo (eo_lc (vs := [2]) (ir_seq (er_var 1)) (grc_name (j := 2) (by decide)) tr_yes (er_n Zj.rc_intS (ar_cons (er_var 2) ar_nil)))) er_non))) : SR K _ (t_read_joined))
theorem sc_rise : FnScope N_rise ["items"] (defScope s_rise) := ⟨rfl, rfl, rfl, by decide +kernel, rfl, by decide +kernel, by decide +kernel⟩
theorem ok_rise (T : Txt K mg) : FnOk P w K mg base CX0 1 T.f_rise T.fd_rise ["items"] (spG K 1 (g_rise)) := by
  refine fnG (m := 2) T.F_rise sc_rise rfl rfl (fun cdv A outer s H E hr => ?_)
  have hu := hr.units
  refine ⟨_, (pss_one (ps_ret (pe_callB (cr_all rfl) (by rfl) T.m_all bt_all (pa_cons (pe_lc (own := [("first", 1), ("second", 2)]) (g := (gTup K 2 (gCons (gName 1) (gCons (gName 2) gNil)))) (tt := tYes) (te := (tOp _ (tVar 1) (tVar 2))) rfl sc_rise.nd (RZ.pi_zipA (by rfl) T.m_zip (pa_cons (pv 0) (pa_cons (pe_slice sl_list (pv 0) (po_some pe_int) po_none) pa_nil))) (blkOk_by (N := N_rise) (sc := defScope s_rise) (by decide +kernel)) (fun _ _ _ _ _ => (pg_tup rfl (pgs_cons (pg_name (i := 1) sc_rise.nd rfl (by first | exact Or.inl rfl | exact Or.inr rfl)) (pgs_cons (pg_name (i := 2) sc_rise.nd rfl (by first | exact Or.inl rfl | exact Or.inr rfl)) pgs_nil)))) (fun _ _ _ _ _ => pts_nil) (fun _ _ _ _ _ => (pe_cmpR (OpR.or op_lt op_lt_str) (pv 1) (pv 2) (nomark _)))) pa_nil)))), ?_⟩
  exact ((sr_ret (er_n rc_all (ar_cons (er_of_eo (eo_lc (vs := [1, 2]) (Zq9.ir_zip (ar_cons (er_var 0) (ar_cons (er_sl (er_var 0) (or_some er_int) or_none) ar_nil))) (grc_tup2 (i := 1) (j := 2) (by decide) (by decide)) tr_yes (er_2 (Zra.rr_ltA rr_lt Zj.rr_ltT) (er_var 1) (er_var 2)))) ar_nil))) : SR K _ (t_rise))
theorem sc_count : FnScope N_count ["numbers"] (defScope s_count) := ⟨rfl, rfl, rfl, by decide +kernel, rfl, by decide +kernel, by decide +kernel⟩
theorem ok_count (T : Txt K mg) : FnOk P w K mg base CX0 2 T.f_count T.fd_count ["numbers"] (spG K 1 (g_count)) := by
  have G_rise := ok_rise (P := P) (w := w) (base := base) T
  refine fnG (m := 0) T.F_count sc_count rfl rfl (fun cdv A outer s H E hr => ?_)
  have hu := hr.units
  refine ⟨_, (pss_one (ps_ret (pe_call G_rise (hr.mono (by decide)) (by rfl) T.g_rise T.F_rise.kp T.b_rise .nil pass0 (pa_cons (pe_op op_addA (pe_lst (pa_cons pe_int pa_nil)) (pv 0)) pa_nil)))), ?_⟩
  exact ((sr_ret (er_call (ar_cons (er_2 rr_add (er_lst (ar_cons er_int ar_nil)) (er_var 0)) ar_nil))) : SR K _ (t_count))
theorem sc_read_name : FnScope N_read_name ["word"] (defScope s_read_name) := ⟨rfl, rfl, rfl, by decide +kernel, rfl, by decide +kernel, by decide +kernel⟩
theorem ok_read_name (T : Txt K mg) : FnOk P w K mg base CX0 3 T.f_read_name T.fd_read_name ["word"] (spG K 1 (g_read_name)) := by
  have G_read_joined := ok_read_joined (P := P) (w := w) (base := base) T
  have G_is_name := ok_is_name (P := P) (w := w) (base := base) T
  have G_count := ok_count (P := P) (w := w) (base := base) T
  refine fnG (m := 4) T.F_read_name sc_read_name rfl rfl (fun cdv A outer s H E hr => ?_)
  have hu := hr.units
  refine ⟨_, (pss_cons (ps_asg (pe_m1 PySem.F.slot_str_partition PySem.F.type_str_partition mt_partition (pv 0) pe_str) (pg_tup rfl (pgs_cons (pg_name (i := 1) sc_read_name.nd rfl (by first | exact Or.inl rfl | exact Or.inr rfl)) (pgs_cons (pg_name (i := 2) sc_read_name.nd rfl (by first | exact Or.inl rfl | exact Or.inr rfl)) (pgs_cons (pg_name (i := 3) sc_read_name.nd rfl (by first | exact Or.inl rfl | exact Or.inr rfl)) pgs_nil)))))
 (pss_cons (ps_set (i := 4) sc_read_name.nd rfl (by first | exact Or.inl rfl | exact Or.inr rfl) (pe_ifExp (pt_truth (pv 3) (fun _ => rfl)) (pe_call G_read_joined (hr.mono (by decide)) (by rfl) T.g_read_joined T.F_read_joined.kp T.b_read_joined .nil pass0 (pa_cons (pv 3) pa_nil)) (pe_lst pa_nil)))
 (pss_cons (ps_if ((pw_or (pt_not (pt_truth (pe_call G_is_name (hr.mono (by decide)) (by rfl) T.g_is_name T.F_is_name.kp T.b_is_name .nil pass0 (pa_cons (pv 1) pa_nil)) (fun _ => rfl))) (pw_or (pt_not (pt_truth (pv 2) (fun _ => rfl))) (pw_or (pt_cmpR op_isN (pv 4) pe_non (nomark _)) (pw_or1 (pt_not (pt_truth (pe_call G_count (hr.mono (by decide)) (by rfl) T.g_count T.F_count.kp T.b_count .nil pass0 (pa_cons (pv 4) pa_nil)) (fun _ => rfl)))))))).pt
 (pss_one (ps_ret pe_non))
 pss_nil)
 (pss_one (ps_ret (pe_tup (pa_cons (pv 1) (pa_cons (pe_callTy call_tuple_of (by rfl) T.m_tuple bt_tuple (pa_cons (pv 4) pa_nil)) pa_nil)))))))), ?_⟩
  exact ((sr_seq (sr_asg (Zj.er_m1 Zj.rm_part (er_var 0) er_str) (gr'_tup (n := 3) (grs'_cons (gr'_name 1) (grs'_cons (gr'_name 2) (grs'_cons (gr'_name 3) grs'_nil)))))
 (sr_seq (sr_asg (er_if (tr_tru (er_var 3)) (er_call (ar_cons (er_var 3) ar_nil)) (er_lst ar_nil)) (gr'_name 4))
 (sr_seq (sr_if (tr_or (tr_not (tr_tru (er_call (ar_cons (er_var 1) ar_nil)))) (tr_or (tr_not (tr_tru (er_var 2))) (tr_or (tr_test (er_2 rr_is (er_var 4) er_non)) (tr_not (tr_tru (er_call (ar_cons (er_var 4) ar_nil)))))))
 (sr_ret er_non)
 sr_next)
 (sr_ret (er_tup (ar_cons (er_var 1) (ar_cons (er_n rc_tuple (ar_cons (er_var 4) ar_nil)) ar_nil))))))) : SR K _ (t_read_name))
theorem sc_read_warden : FnScope N_read_warden ["word"] (defScope s_read_warden) := ⟨rfl, rfl, rfl, by decide +kernel, rfl, by decide +kernel, by decide +kernel⟩
theorem ok_read_warden (T : Txt K mg) : FnOk P w K mg base CX0 3 T.f_read_warden T.fd_read_warden ["word"] (spG K 1 (g_read_warden)) := by
  have G_read_joined := ok_read_joined (P := P) (w := w) (base := base) T
  have G_is_number := ok_is_number (P := P) (w := w) (base := base) T
  have G_rise := ok_rise (P := P) (w := w) (base := base) T
  refine fnG (m := 4) T.F_read_warden sc_read_warden rfl rfl (fun cdv A outer s H E hr => ?_)
  have hu := hr.units
  refine ⟨_, (pss_cons (ps_asg (pe_m1 PySem.F.slot_str_partition PySem.F.type_str_partition mt_partition (pv 0) pe_str) (pg_tup rfl (pgs_cons (pg_name (i := 1) sc_read_warden.nd rfl (by first | exact Or.inl rfl | exact Or.inr rfl)) (pgs_cons (pg_name (i := 2) sc_read_warden.nd rfl (by first | exact Or.inl rfl | exact Or.inr rfl)) (pgs_cons (pg_name (i := 3) sc_read_warden.nd rfl (by first | exact Or.inl rfl | exact Or.inr rfl)) pgs_nil)))))
 (pss_cons (ps_set (i := 4) sc_read_warden.nd rfl (by first | exact Or.inl rfl | exact Or.inr rfl) (pe_call G_read_joined (hr.mono (by decide)) (by rfl) T.g_read_joined T.F_read_joined.kp T.b_read_joined .nil pass0 (pa_cons (pv 3) pa_nil)))
 (pss_cons (ps_if ((pw_or (pt_not (pt_truth (pe_call G_is_number (hr.mono (by decide)) (by rfl) T.g_is_number T.F_is_number.kp T.b_is_number .nil pass0 (pa_cons (pv 1) pa_nil)) (fun _ => rfl))) (pw_or (pt_cmpR op_isN (pv 4) pe_non (nomark _)) (pw_or (pt_cmpR (op_neD hu) (pe_callB call_lenA (by rfl) T.m_len bt_len (pa_cons (pv 4) pa_nil)) pe_int (nomark _)) (pw_or1 (pt_not (pt_truth (pe_call G_rise (hr.mono (by decide)) (by rfl) T.g_rise T.F_rise.kp T.b_rise .nil pass0 (pa_cons (pv 4) pa_nil)) (fun _ => rfl)))))))).pt
 (pss_one (ps_ret pe_non))
 pss_nil)
 (pss_one (ps_ret (pe_tup (pa_cons (pe_callTy call_int_str (by rfl) T.m_int bt_int (pa_cons (pv 1) pa_nil)) (pa_cons (pe_ix ix_seq (pv 4) pe_int (fun _ _ => rfl)) (pa_cons (pe_ix ix_seq (pv 4) pe_int (fun _ _ => rfl)) pa_nil))))))))), ?_⟩
  exact ((sr_seq (sr_asg (Zj.er_m1 Zj.rm_part (er_var 0) er_str) (gr'_tup (n := 3) (grs'_cons (gr'_name 1) (grs'_cons (gr'_name 2) (grs'_cons (gr'_name 3) grs'_nil)))))
 (sr_seq (sr_asg (er_call (ar_cons (er_var 3) ar_nil)) (gr'_name 4))
 (sr_seq (sr_if (tr_or (tr_not (tr_tru (er_call (ar_cons (er_var 1) ar_nil)))) (tr_or (tr_test (er_2 rr_is (er_var 4) er_non)) (tr_or (tr_test (er_2 rr_ne (er_n rc_len (ar_cons (er_var 4) ar_nil)) er_int)) (tr_not (tr_tru (er_call (ar_cons (er_var 4) ar_nil)))))))
 (sr_ret er_non)
 sr_next)
 (sr_ret (er_tup (ar_cons (er_n Zj.rc_intS (ar_cons (er_var 1) ar_nil)) (ar_cons (er_2 rr_ix (er_var 4) er_int) (ar_cons (er_2 rr_ix (er_var 4) er_int) ar_nil)))))))) : SR K _ (t_read_warden))
theorem sc_read_wardens : FnScope N_read_wardens ["words"] (defScope s_read_wardens) := ⟨rfl, rfl, rfl, by decide +kernel, rfl, by decide +kernel, by decide +kernel⟩
theorem ok_read_wardens (T : Txt K mg) : FnOk P w K mg base CX0 4 T.f_read_wardens T.fd_read_wardens ["words"] (spG K 1 (g_read_wardens)) := by
  have G_read_warden := ok_read_warden (P := P) (w := w) (base := base) T
  have G_count := ok_count (P := P) (w := w) (base := base) T
  refine fnG (m := 4) T.F_read_wardens sc_read_wardens rfl rfl (fun cdv A outer s H E hr => ?_)
  have hu := hr.units
  refine ⟨_, (pss_cons (ps_if ((pw_or (pt_not (pt_truth (pv 0) (fun _ => rfl))) (pw_or1 (pt_cmpR (op_neD hu) (pe_ix ix_seq (pv 0) pe_int (fun _ _ => rfl)) pe_str (nomark _))))).pt
 (pss_one (ps_ret pe_non))
 pss_nil)
 (pss_cons (ps_setLc (i := 1) (own := [("word", 2)]) (g := (gName 2)) (tt := tYes) (te := (tCall (spG K 1 (g_read_warden)) [] E0 (tCons (tVar 2) tNil))) rfl sc_read_wardens.nd rfl rfl (sw_true rfl rfl rfl (by decide +kernel)) (pi_seq (pe_slice sl_list (pv 0) (po_some pe_int) po_none)) (blkOk_by (N := N_read_wardens) (sc := defScope s_read_wardens) (by decide +kernel)) (fun _ _ _ _ _ => (pg_name (i := 2) sc_read_wardens.nd rfl (by first | exact Or.inl rfl | exact Or.inr rfl))) (fun _ _ _ _ _ => pts_nil) (fun _ _ _ _ _ => (pe_call G_read_warden (hr.mono (by decide)) (by rfl) T.g_read_warden T.F_read_warden.kp T.b_read_warden .nil pass0 (pa_cons (pv 2) pa_nil))))
 (pss_cons (ps_if ((pw_or (pt_cmpR (op_inP hu) pe_non (pv 1) (by rfl)) (pw_or1 (pt_not (pt_truth (pe_call G_count (hr.mono (by decide)) (by rfl) T.g_count T.F_count.kp T.b_count .nil pass0 (pa_cons (pe_lc (own := [("number", 3), ("_", 4)]) (g := (gTup K 3 (gCons (gName 3) (gCons (gName 4) (gCons (gName 4) gNil))))) (tt := tYes) (te := (tVar 3)) rfl sc_read_wardens.nd (pi_seq (pv 1)) (blkOk_by (N := N_read_wardens) (sc := defScope s_read_wardens) (by decide +kernel)) (fun _ _ _ _ _ => (pg_tup rfl (pgs_cons (pg_name (i := 3) sc_read_wardens.nd rfl (by first | exact Or.inl rfl | exact Or.inr rfl)) (pgs_cons (pg_name (i := 4) sc_read_wardens.nd rfl (by first | exact Or.inl rfl | exact Or.inr rfl)) (pgs_cons (pg_name (i := 4) sc_read_wardens.nd rfl (by first | exact Or.inl rfl | exact Or.inr rfl)) pgs_nil))))) (fun _ _ _ _ _ => pts_nil) (fun _ _ _ _ _ => (pv 3))) pa_nil)) (fun _ => rfl)))))).pt
 (pss_one (ps_ret pe_non))
 pss_nil)
 (pss_one (ps_ret (pe_callTy call_tuple_of (by rfl) T.m_tuple bt_tuple (pa_cons (pv 1) pa_nil))))))), ?_⟩
  exact ((sr_seq (sr_if (tr_or (tr_not (tr_tru (er_var 0))) (tr_test (er_2 rr_ne (er_2 rr_ix (er_var 0) er_int) er_str)))
 (sr_ret er_non)
 sr_next)
 (sr_seq (sr_asg (er_of_eo (eo_lc (vs := [2]) (ir_seq (er_sl (er_var 0) (or_some er_int) or_none)) (grc_name (j := 2) (by decide)) tr_yes (er_call (ar_cons (er_var 2) ar_nil)))) (gr'_name 1))
 (sr_seq (sr_if (tr_or (tr_test (er_2 rr_inP er_non (er_var 1))) (tr_not (tr_tru (er_call (ar_cons (er_of_eo (eo_lc (vs := [3, 4]) (ir_seq (er_var 1)) (Zq9.grc_tup3 (i := 3) (j := 4) (l := 4) (by decide) (by decide) (by decide)) tr_yes (er_var 3))) ar_nil)))))
 (sr_ret er_non)
 sr_next)
 (sr_ret (er_n rc_tuple (ar_cons (er_var 1) ar_nil)))))) : SR K _ (t_read_wardens))
theorem sc_read_picture : FnScope N_read_picture ["words"] (defScope s_read_picture) := ⟨rfl, rfl, rfl, by decide +kernel, rfl, by decide +kernel, by decide +kernel⟩
theorem ok_read_picture (T : Txt K mg) : FnOk P w K mg base CX0 5 T.f_read_picture T.fd_read_picture ["words"] (spG K 1 (g_read_picture)) := by
  have G_read_joined := ok_read_joined (P := P) (w := w) (base := base) T
  have G_read_name := ok_read_name (P := P) (w := w) (base := base) T
  have G_read_wardens := ok_read_wardens (P := P) (w := w) (base := base) T
  have G_rise := ok_rise (P := P) (w := w) (base := base) T
  refine fnG (m := 7) T.F_read_picture sc_read_picture rfl rfl (fun cdv A outer s H E hr => ?_)
  have hu := hr.units
  refine ⟨_, (pss_cons (ps_if (pt_cmpR (op_ninP hu) pe_str (pv 0) (by rfl))
 (pss_one (ps_ret pe_non))
 pss_nil)
 (pss_cons (ps_set (i := 1) sc_read_picture.nd rfl (by first | exact Or.inl rfl | exact Or.inr rfl) (pe_bm PySem.F.plainAttrs_list PySem.F.slot_list_index PySem.F.type_list_index (Zk2.mt_idxP hu) (pv 0) (pa_cons pe_str pa_nil)))
 (pss_cons (ps_set (i := 2) sc_read_picture.nd rfl (by first | exact Or.inl rfl | exact Or.inr rfl) (pe_call G_read_joined (hr.mono (by decide)) (by rfl) T.g_read_joined T.F_read_joined.kp T.b_read_joined .nil pass0 (pa_cons (pe_ix ix_seq (pv 0) pe_int (fun _ _ => rfl)) pa_nil)))
 (pss_cons (ps_setLc (i := 3) (own := [("word", 5)]) (g := (gName 5)) (tt := tYes) (te := (tCall (spG K 1 (g_read_name)) [] E0 (tCons (tVar 5) tNil))) rfl sc_read_picture.nd rfl rfl (sw_true rfl rfl rfl (by decide +kernel)) (pi_seq (pe_slice sl_list (pv 0) (po_some pe_int) (po_some (pv 1)))) (blkOk_by (N := N_read_picture) (sc := defScope s_read_picture) (by decide +kernel)) (fun _ _ _ _ _ => (pg_name (i := 5) sc_read_picture.nd rfl (by first | exact Or.inl rfl | exact Or.inr rfl))) (fun _ _ _ _ _ => pts_nil) (fun _ _ _ _ _ => (pe_call G_read_name (hr.mono (by decide)) (by rfl) T.g_read_name T.F_read_name.kp T.b_read_name .nil pass0 (pa_cons (pv 5) pa_nil))))
 (pss_cons (ps_set (i := 4) sc_read_picture.nd rfl (by first | exact Or.inl rfl | exact Or.inr rfl) (pe_call G_read_wardens (hr.mono (by decide)) (by rfl) T.g_read_wardens T.F_read_wardens.kp T.b_read_wardens .nil pass0 (pa_cons (pe_slice sl_list (pv 0) (po_some (pv 1)) po_none) pa_nil)))
 (pss_cons (ps_if ((pw_or (pt_cmpR op_isN (pv 2) pe_non (nomark _)) (pw_or (pt_cmpR (op_inP hu) pe_non (pv 3) (by rfl)) (pw_or (pt_cmpR op_isN (pv 4) pe_non (nomark _)) (pw_or1 (pt_not (pt_truth (pe_call G_rise (hr.mono (by decide)) (by rfl) T.g_rise T.F_rise.kp T.b_rise .nil pass0 (pa_cons (pe_lc (own := [("name", 6), ("_", 7)]) (g := (gTup K 2 (gCons (gName 6) (gCons (gName 7) gNil)))) (tt := tYes) (te := (tVar 6)) rfl sc_read_picture.nd (pi_seq (pv 3)) (blkOk_by (N := N_read_picture) (sc := defScope s_read_picture) (by decide +kernel)) (fun _ _ _ _ _ => (pg_tup rfl (pgs_cons (pg_name (i := 6) sc_read_picture.nd rfl (by first | exact Or.inl rfl | exact Or.inr rfl)) (pgs_cons (pg_name (i := 7) sc_read_picture.nd rfl (by first | exact Or.inl rfl | exact Or.inr rfl)) pgs_nil)))) (fun _ _ _ _ _ => pts_nil) (fun _ _ _ _ _ => (pv 6))) pa_nil)) (fun _ => rfl)))))))).pt
 (pss_one (ps_ret pe_non))
 pss_nil)
 (pss_one (ps_ret (pe_tup (pa_cons pe_str (pa_cons (pe_callTy call_tuple_of (by rfl) T.m_tuple bt_tuple (pa_cons (pv 2) pa_nil)) (pa_cons (pe_callTy call_tuple_of (by rfl) T.m_tuple bt_tuple (pa_cons (pv 3) pa_nil)) (pa_cons (pv 4) pa_nil))))))))))))), ?_⟩
  exact ((sr_seq (sr_if (tr_test (er_2 rr_ninP er_str (er_var 0)))
 (sr_ret er_non)
 sr_next)
 (sr_seq (sr_asg (Zk2.er_index (er_var 0) er_str) (gr'_name 1))
 (sr_seq (sr_asg (er_call (ar_cons (er_2 rr_ix (er_var 0) er_int) ar_nil)) (gr'_name 2))
 (sr_seq (sr_asg (er_of_eo (eo_lc (vs := [5]) (ir_seq (er_sl (er_var 0) (or_some er_int) (or_some (er_var 1)))) (grc_name (j := 5) (by decide)) tr_yes (er_call (ar_cons (er_var 5) ar_nil)))) (gr'_name 3))
 (sr_seq (sr_asg (er_call (ar_cons (er_sl (er_var 0) (or_some (er_var 1)) or_none) ar_nil)) (gr'_name 4))
 (sr_seq (sr_if (tr_or (tr_test (er_2 rr_is (er_var 2) er_non)) (tr_or (tr_test (er_2 rr_inP er_non (er_var 3))) (tr_or (tr_test (er_2 rr_is (er_var 4) er_non)) (tr_not (tr_tru (er_call (ar_cons (er_of_eo (eo_lc (vs := [6, 7]) (ir_seq (er_var 3)) (grc_tup2 (i := 6) (j := 7) (by decide) (by decide)) tr_yes (er_var 6))) ar_nil)))))))
 (sr_ret er_non)
 sr_next)
 (sr_ret (er_tup (ar_cons er_str (ar_cons (er_n rc_tuple (ar_cons (er_var 2) ar_nil)) (ar_cons (er_n rc_tuple (ar_cons (er_var 3) ar_nil)) (ar_cons (er_var 4) ar_nil)))))))))))) : SR K _ (t_read_picture))
theorem sc_read_put : FnScope N_read_put ["words"] (defScope s_read_put) := ⟨rfl, rfl, rfl, by decide +kernel, rfl, by decide +kernel, by decide +kernel⟩
theorem ok_read_put (T : Txt K mg) : FnOk P w K mg base CX0 5 T.f_read_put T.fd_read_put ["words"] (spG K 1 (g_read_put)) := by
  have G_read_name := ok_read_name (P := P) (w := w) (base := base) T
  have G_read_wardens := ok_read_wardens (P := P) (w := w) (base := base) T
  refine fnG (m := 2) T.F_read_put sc_read_put rfl rfl (fun cdv A outer s H E hr => ?_)
  have hu := hr.units
  refine ⟨_, (pss_cons (ps_set (i := 1) sc_read_put.nd rfl (by first | exact Or.inl rfl | exact Or.inr rfl) (pe_ifExp (pt_truth (pv 0) (fun _ => rfl)) (pe_call G_read_name (hr.mono (by decide)) (by rfl) T.g_read_name T.F_read_name.kp T.b_read_name .nil pass0 (pa_cons (pe_ix ix_seq (pv 0) pe_int (fun _ _ => rfl)) pa_nil)) pe_non))
 (pss_cons (ps_set (i := 2) sc_read_put.nd rfl (by first | exact Or.inl rfl | exact Or.inr rfl) (pe_call G_read_wardens (hr.mono (by decide)) (by rfl) T.g_read_wardens T.F_read_wardens.kp T.b_read_wardens .nil pass0 (pa_cons (pe_slice sl_list (pv 0) (po_some pe_int) po_none) pa_nil)))
 (pss_one (ps_ret (pe_ifExp ((pw_or (pt_cmpR op_isN (pv 1) pe_non (nomark _)) (pw_or1 (pt_cmpR op_isN (pv 2) pe_non (nomark _))))).pt pe_non (pe_tup (pa_cons pe_str (pa_cons (pe_ix ix_seq (pv 1) pe_int (fun _ _ => rfl)) (pa_cons (pe_ix ix_seq (pv 1) pe_int (fun _ _ => rfl)) (pa_cons (pv 2) pa_nil)))))))))), ?_⟩
  exact ((sr_seq (sr_asg (er_if (tr_tru (er_var 0)) (er_call (ar_cons (er_2 rr_ix (er_var 0) er_int) ar_nil)) er_non) (gr'_name 1))
 (sr_seq (sr_asg (er_call (ar_cons (er_sl (er_var 0) (or_some er_int) or_none) ar_nil)) (gr'_name 2))
 (sr_ret (er_if (tr_or (tr_test (er_2 rr_is (er_var 1) er_non)) (tr_test (er_2 rr_is (er_var 2) er_non))) er_non (er_tup (ar_cons er_str (ar_cons (er_2 rr_ix (er_var 1) er_int) (ar_cons (er_2 rr_ix (er_var 1) er_int) (ar_cons (er_var 2) ar_nil))))))))) : SR K _ (t_read_put))
theorem sc_read_deal : FnScope N_read_deal ["words"] (defScope s_read_deal) := ⟨rfl, rfl, rfl, by decide +kernel, rfl, by decide +kernel, by decide +kernel⟩
theorem ok_read_deal (T : Txt K mg) : FnOk P w K mg base CX0 5 T.f_read_deal T.fd_read_deal ["words"] (spG K 1 (g_read_deal)) := by
  have G_read_wardens := ok_read_wardens (P := P) (w := w) (base := base) T
  refine fnG (m := 1) T.F_read_deal sc_read_deal rfl rfl (fun cdv A outer s H E hr => ?_)
  have hu := hr.units
  refine ⟨_, (pss_cons (ps_set (i := 1) sc_read_deal.nd rfl (by first | exact Or.inl rfl | exact Or.inr rfl) (pe_call G_read_wardens (hr.mono (by decide)) (by rfl) T.g_read_wardens T.F_read_wardens.kp T.b_read_wardens .nil pass0 (pa_cons (pv 0) pa_nil)))
 (pss_one (ps_ret (pe_ifExp (pt_cmpR op_isN (pv 1) pe_non (nomark _)) pe_non (pe_tup (pa_cons pe_str (pa_cons (pv 1) pa_nil))))))), ?_⟩
  exact ((sr_seq (sr_asg (er_call (ar_cons (er_var 0) ar_nil)) (gr'_name 1))
 (sr_ret (er_if (tr_test (er_2 rr_is (er_var 1) er_non)) er_non (er_tup (ar_cons er_str (ar_cons (er_var 1) ar_nil)))))) : SR K _ (t_read_deal))
theorem sc_read_cap : FnScope N_read_cap ["words"] (defScope s_read_cap) := ⟨rfl, rfl, rfl, by decide +kernel, rfl, by decide +kernel, by decide +kernel⟩
theorem ok_read_cap (T : Txt K mg) : FnOk P w K mg base CX0 5 T.f_read_cap T.fd_read_cap ["words"] (spG K 1 (g_read_cap)) := by
  have G_read_wardens := ok_read_wardens (P := P) (w := w) (base := base) T
  have G_is_number := ok_is_number (P := P) (w := w) (base := base) T
  refine fnG (m := 3) T.F_read_cap sc_read_cap rfl rfl (fun cdv A outer s H E hr => ?_)
  have hu := hr.units
  refine ⟨_, (pss_cons (ps_set (i := 1) sc_read_cap.nd rfl (by first | exact Or.inl rfl | exact Or.inr rfl) (pe_slice sl_list (pv 0) po_none (po_some pe_int)))
 (pss_cons (ps_set (i := 2) sc_read_cap.nd rfl (by first | exact Or.inl rfl | exact Or.inr rfl) (pe_call G_read_wardens (hr.mono (by decide)) (by rfl) T.g_read_wardens T.F_read_wardens.kp T.b_read_wardens .nil pass0 (pa_cons (pe_slice sl_list (pv 0) (po_some pe_int) po_none) pa_nil)))
 (pss_cons (ps_if ((pw_or (pt_not (pt_truth (pe_callB (cr_all rfl) (by rfl) T.m_all bt_all (pa_cons (pe_lc (own := [("word", 3)]) (g := (gName 3)) (tt := tYes) (te := (tCall (spG K 1 (g_is_number)) [] E0 (tCons (tVar 3) tNil))) rfl sc_read_cap.nd (pi_seq (pv 1)) (blkOk_by (N := N_read_cap) (sc := defScope s_read_cap) (by decide +kernel)) (fun _ _ _ _ _ => (pg_name (i := 3) sc_read_cap.nd rfl (by first | exact Or.inl rfl | exact Or.inr rfl))) (fun _ _ _ _ _ => pts_nil) (fun _ _ _ _ _ => (pe_call G_is_number (hr.mono (by decide)) (by rfl) T.g_is_number T.F_is_number.kp T.b_is_number .nil pass0 (pa_cons (pv 3) pa_nil)))) pa_nil)) (fun _ => rfl))) (pw_or1 (pt_cmpR op_isN (pv 2) pe_non (nomark _))))).pt
 (pss_one (ps_ret pe_non))
 pss_nil)
 (pss_one (ps_ret (pe_tup (pa_cons pe_str (pa_cons (pe_callTy call_int_str (by rfl) T.m_int bt_int (pa_cons (pe_ix ix_seq (pv 1) pe_int (fun _ _ => rfl)) pa_nil)) (pa_cons (pe_callTy call_int_str (by rfl) T.m_int bt_int (pa_cons (pe_ix ix_seq (pv 1) pe_int (fun _ _ => rfl)) pa_nil)) (pa_cons (pv 2) pa_nil)))))))))), ?_⟩
  exact ((sr_seq (sr_asg (er_sl (er_var 0) or_none (or_some er_int)) (gr'_name 1))
 (sr_seq (sr_asg (er_call (ar_cons (er_sl (er_var 0) (or_some er_int) or_none) ar_nil)) (gr'_name 2))
 (sr_seq (sr_if (tr_or (tr_not (tr_tru (er_n rc_all (ar_cons (er_of_eo (eo_lc (vs := [3]) (ir_seq (er_var 1)) (grc_name (j := 3) (by decide)) tr_yes (er_call (ar_cons (er_var 3) ar_nil)))) ar_nil)))) (tr_test (er_2 rr_is (er_var 2) er_non)))
 (sr_ret er_non)
 sr_next)
 (sr_ret (er_tup (ar_cons er_str (ar_cons (er_n Zj.rc_intS (ar_cons (er_2 rr_ix (er_var 1) er_int) ar_nil)) (ar_cons (er_n Zj.rc_intS (ar_cons (er_2 rr_ix (er_var 1) er_int) ar_nil)) (ar_cons (er_var 2) ar_nil))))))))) : SR K _ (t_read_cap))
theorem sc_read_record : FnScope N_read_record ["text"] (defScope s_read_record) := ⟨rfl, rfl, rfl, by decide +kernel, rfl, by decide +kernel, by decide +kernel⟩
theorem ok_read_record (T : Txt K mg) : FnOk P w K mg base CX0 6 T.f_read_record T.fd_read_record ["text"] (spG K 1 (g_read_record)) := by
  have G_read_picture := ok_read_picture (P := P) (w := w) (base := base) T
  have G_read_put := ok_read_put (P := P) (w := w) (base := base) T
  have G_is_name := ok_is_name (P := P) (w := w) (base := base) T
  have G_read_deal := ok_read_deal (P := P) (w := w) (base := base) T
  have G_read_cap := ok_read_cap (P := P) (w := w) (base := base) T
  refine fnG (m := 5) T.F_read_record sc_read_record rfl rfl (fun cdv A outer s H E hr => ?_)
  have hu := hr.units
  refine ⟨_, (pss_cons (ps_asg (pe_m1 PySem.F.slot_str_partition PySem.F.type_str_partition mt_partition (pv 0) pe_str) (pg_tup rfl (pgs_cons (pg_name (i := 1) sc_read_record.nd rfl (by first | exact Or.inl rfl | exact Or.inr rfl)) (pgs_cons (pg_name (i := 2) sc_read_record.nd rfl (by first | exact Or.inl rfl | exact Or.inr rfl)) (pgs_cons (pg_name (i := 3) sc_read_record.nd rfl (by first | exact Or.inl rfl | exact Or.inr rfl)) pgs_nil)))))
 (pss_cons (ps_if ((pw_or (pt_not (pt_truth (pv 2) (fun _ => rfl))) (pw_or1 (pt_truth (pv 3) (fun _ => rfl))))).pt
 (pss_one (ps_ret pe_non))
 pss_nil)
 (pss_cons (ps_asg (pe_m1 PySem.F.slot_str_split PySem.F.type_str_split mt_split (pv 1) pe_str) (pg_star (n := 2) (i := 1) rfl (pgs_cons (pg_name (i := 4) sc_read_record.nd rfl (by first | exact Or.inl rfl | exact Or.inr rfl)) (pgs_star (pg_name (i := 5) sc_read_record.nd rfl (by first | exact Or.inl rfl | exact Or.inr rfl)) pgs_nil)) (by decide)))
 (pss_cons (ps_if (pt_cmpR (op_eqD hu) (pv 4) pe_str (nomark _))
 (pss_one (ps_ret (pe_call G_read_picture (hr.mono (by decide)) (by rfl) T.g_read_picture T.F_read_picture.kp T.b_read_picture .nil pass0 (pa_cons (pv 5) pa_nil))))
 pss_nil)
 (pss_cons (ps_if (pt_cmpR (op_eqD hu) (pv 4) pe_str (nomark _))
 (pss_one (ps_ret (pe_call G_read_put (hr.mono (by decide)) (by rfl) T.g_read_put T.F_read_put.kp T.b_read_put .nil pass0 (pa_cons (pv 5) pa_nil))))
 pss_nil)
 (pss_cons (ps_if (pt_cmpR (op_eqD hu) (pv 4) pe_str (nomark _))
 (pss_one (ps_ret (pe_ifExp ((pw_and (pt_cmpR (op_eqD hu) (pe_callB call_lenA (by rfl) T.m_len bt_len (pa_cons (pv 5) pa_nil)) pe_int (nomark _)) (pw_and1 (pt_truth (pe_call G_is_name (hr.mono (by decide)) (by rfl) T.g_is_name T.F_is_name.kp T.b_is_name .nil pass0 (pa_cons (pe_ix ix_seq (pv 5) pe_int (fun _ _ => rfl)) pa_nil)) (fun _ => rfl))))).pt (pe_tup (pa_cons pe_str (pa_cons (pe_ix ix_seq (pv 5) pe_int (fun _ _ => rfl)) pa_nil))) pe_non)))
 pss_nil)
 (pss_cons (ps_if (pt_cmpR (op_eqD hu) (pv 4) pe_str (nomark _))
 (pss_one (ps_ret (pe_call G_read_deal (hr.mono (by decide)) (by rfl) T.g_read_deal T.F_read_deal.kp T.b_read_deal .nil pass0 (pa_cons (pv 5) pa_nil))))
 pss_nil)
 (pss_cons (ps_if (pt_cmpR (op_eqD hu) (pv 4) pe_str (nomark _))
 (pss_one (ps_ret (pe_call G_read_cap (hr.mono (by decide)) (by rfl) T.g_read_cap T.F_read_cap.kp T.b_read_cap .nil pass0 (pa_cons (pv 5) pa_nil))))
 pss_nil)
 (pss_one (ps_ret pe_non)))))))))), ?_⟩
  exact ((sr_seq (sr_asg (Zj.er_m1 Zj.rm_part (er_var 0) er_str) (gr'_tup (n := 3) (grs'_cons (gr'_name 1) (grs'_cons (gr'_name 2) (grs'_cons (gr'_name 3) grs'_nil)))))
 (sr_seq (sr_if (tr_or (tr_not (tr_tru (er_var 2))) (tr_tru (er_var 3)))
 (sr_ret er_non)
 sr_next)
 (sr_seq (Zj.sr_star (n := 2) (i := 1) (Zj.er_m1 Zj.rm_split (er_var 1) er_str) (grs'_cons (gr'_name 4) (grs'_cons (gr'_name 5) grs'_nil)))
 (sr_seq (sr_if (tr_test (er_2 rr_eq (er_var 4) er_str))
 (sr_ret (er_call (ar_cons (er_var 5) ar_nil)))
 sr_next)
 (sr_seq (sr_if (tr_test (er_2 rr_eq (er_var 4) er_str))
 (sr_ret (er_call (ar_cons (er_var 5) ar_nil)))
 sr_next)
 (sr_seq (sr_if (tr_test (er_2 rr_eq (er_var 4) er_str))
 (sr_ret (er_if (tr_and (tr_test (er_2 rr_eq (er_n rc_len (ar_cons (er_var 5) ar_nil)) er_int)) (tr_tru (er_call (ar_cons (er_2 rr_ix (er_var 5) er_int) ar_nil)))) (er_tup (ar_cons er_str (ar_cons (er_2 rr_ix (er_var 5) er_int) ar_nil))) er_non))
 sr_next)
 (sr_seq (sr_if (tr_test (er_2 rr_eq (er_var 4) er_str))
 (sr_ret (er_call (ar_cons (er_var 5) ar_nil)))
 sr_next)
 (sr_seq (sr_if (tr_test (er_2 rr_eq (er_var 4) er_str))
 (sr_ret (er_call (ar_cons (er_var 5) ar_nil)))
 sr_next)
 (sr_ret er_non))))))))) : SR K _ (t_read_record))
theorem sc_last_picture : FnScope N_last_picture ["log"] (defScope s_last_picture) := ⟨rfl, rfl, rfl, by decide +kernel, rfl, by decide +kernel, by decide +kernel⟩
theorem ok_last_picture (T : Txt K mg) : FnOk P w K mg base CX0 7 T.f_last_picture T.fd_last_picture ["log"] (spG K 1 (g_last_picture)) := by
  have G_read_record := ok_read_record (P := P) (w := w) (base := base) T
  refine fnG (m := 1) T.F_last_picture sc_last_picture rfl rfl (fun cdv A outer s H E hr => ?_)
  have hu := hr.units
  refine ⟨_, (pss_cons (ps_for PassesOwn.never rfl (pi_revR (by rfl) T.m_reversed (prg_1 (by rfl) T.m_range (pe_callB call_lenA (by rfl) T.m_len bt_len (pa_cons (pv 0) pa_nil)))) (pg_name (i := 1) sc_last_picture.nd rfl (by first | exact Or.inl rfl | exact Or.inr rfl))
 (pss_one (ps_if ((pw_and (pt_truth (pe_m1 PySem.F.slot_str_startswith PySem.F.type_str_startswith mt_startswith (pe_ix ix_seq (pv 0) (pv 1) (fun _ _ => rfl)) pe_str) (fun _ => rfl)) (pw_and1 (pt_cmpR op_notN (pe_call G_read_record (hr.mono (by decide)) (by rfl) T.g_read_record T.F_read_record.kp T.b_read_record .nil pass0 (pa_cons (pe_ix ix_seq (pv 0) (pv 1) (fun _ _ => rfl)) pa_nil)) pe_non (nomark _))))).pt
 (pss_one (ps_ret (pv 1)))
 pss_nil)))
 (pss_one (ps_ret pe_non))), ?_⟩
  exact ((sr_seq (sr_for (Zra.ir_revR (er_n rc_len (ar_cons (er_var 0) ar_nil))) (gr'_name 1)
 (sr_if (tr_and (tr_tru (Zj.er_m1 Zj.rm_starts (er_2 rr_ix (er_var 0) (er_var 1)) er_str)) (tr_test (er_2 rr_isnt (er_call (ar_cons (er_2 rr_ix (er_var 0) (er_var 1)) ar_nil)) er_non)))
 (sr_ret (er_var 1))
 sr_next))
 (sr_ret er_non)) : SR K _ (t_last_picture))
theorem sc_read_log : FnScope N_read_log ["log"] (defScope s_read_log) := ⟨rfl, rfl, rfl, by decide +kernel, rfl, by decide +kernel, by decide +kernel⟩
theorem ok_read_log (T : Txt K mg) : FnOk P w K mg base CX0 8 T.f_read_log T.fd_read_log ["log"] (spG K 1 (g_read_log)) := by
  have G_last_picture := ok_last_picture (P := P) (w := w) (base := base) T
  have G_read_record := ok_read_record (P := P) (w := w) (base := base) T
  refine fnG (m := 4) T.F_read_log sc_read_log rfl rfl (fun cdv A outer s H E hr => ?_)
  have hu := hr.units
  refine ⟨_, (pss_cons (ps_set (i := 1) sc_read_log.nd rfl (by first | exact Or.inl rfl | exact Or.inr rfl) (pe_call G_last_picture (hr.mono (by decide)) (by rfl) T.g_last_picture T.F_last_picture.kp T.b_last_picture .nil pass0 (pa_cons (pv 0) pa_nil)))
 (pss_cons (ps_if (pt_cmpR op_isN (pv 1) pe_non (nomark _))
 (pss_one (ps_ret (pe_lst pa_nil)))
 pss_nil)
 (pss_cons (ps_set (i := 2) sc_read_log.nd rfl (by first | exact Or.inl rfl | exact Or.inr rfl) (pe_lst pa_nil))
 (pss_cons (ps_for PassesOwn.never rfl (pi_seq (pe_slice sl_list (pv 0) (po_some (pv 1)) po_none)) (pg_name (i := 3) sc_read_log.nd rfl (by first | exact Or.inl rfl | exact Or.inr rfl))
 (pss_cons (ps_set (i := 4) sc_read_log.nd rfl (by first | exact Or.inl rfl | exact Or.inr rfl) (pe_call G_read_record (hr.mono (by decide)) (by rfl) T.g_read_record T.F_read_record.kp T.b_read_record .nil pass0 (pa_cons (pv 3) pa_nil)))
 (pss_cons (ps_if (pt_cmpR op_isN (pv 4) pe_non (nomark _))
 (pss_one (ps_ret (pv 2)))
 pss_nil)
 (pss_one (ps_expr (pe_bm PySem.F.plainAttrs_list PySem.F.slot_list_append PySem.F.type_list_append mt_append (pv 2) (pa_cons (pv 4) pa_nil)))))))
 (pss_one (ps_ret (pv 2))))))), ?_⟩
  exact ((sr_seq (sr_asg (er_call (ar_cons (er_var 0) ar_nil)) (gr'_name 1))
 (sr_seq (sr_if (tr_test (er_2 rr_is (er_var 1) er_non))
 (sr_retO (eo_lst ar_nil))
 sr_next)
 (sr_seq (sr_asgO (eo_lst ar_nil))
 (sr_seq (sr_for (ir_seq (er_sl (er_var 0) (or_some (er_var 1)) or_none)) (gr'_name 3)
 (sr_seq (sr_asg (er_call (ar_cons (er_var 3) ar_nil)) (gr'_name 4))
 (sr_seq (sr_if (tr_test (er_2 rr_is (er_var 4) er_non))
 (sr_retV 2)
 sr_next)
 (sr_app (i := 2) (er_var 4)))))
 (sr_retV 2))))) : SR K _ (t_read_log))
theorem sc_log_end : FnScope N_log_end ["log"] (defScope s_log_end) := ⟨rfl, rfl, rfl, by decide +kernel, rfl, by decide +kernel, by decide +kernel⟩
theorem ok_log_end (T : Txt K mg) : FnOk P w K mg base CX0 9 T.f_log_end T.fd_log_end ["log"] (spG K 1 (g_log_end)) := by
  have G_last_picture := ok_last_picture (P := P) (w := w) (base := base) T
  have G_read_log := ok_read_log (P := P) (w := w) (base := base) T
  refine fnG (m := 1) T.F_log_end sc_log_end rfl rfl (fun cdv A outer s H E hr => ?_)
  have hu := hr.units
  refine ⟨_, (pss_cons (ps_set (i := 1) sc_log_end.nd rfl (by first | exact Or.inl rfl | exact Or.inr rfl) (pe_call G_last_picture (hr.mono (by decide)) (by rfl) T.g_last_picture T.F_last_picture.kp T.b_last_picture .nil pass0 (pa_cons (pv 0) pa_nil)))
 (pss_one (ps_ret (pe_ifExp (pt_cmpR op_isN (pv 1) pe_non (nomark _)) pe_int (pe_op op_addA (pv 1) (pe_callB call_lenA (by rfl) T.m_len bt_len (pa_cons (pe_call G_read_log (hr.mono (by decide)) (by rfl) T.g_read_log T.F_read_log.kp T.b_read_log .nil pass0 (pa_cons (pv 0) pa_nil)) pa_nil))))))), ?_⟩
  exact ((sr_seq (sr_asg (er_call (ar_cons (er_var 0) ar_nil)) (gr'_name 1))
 (sr_ret (er_if (tr_test (er_2 rr_is (er_var 1) er_non)) er_int (er_2 rr_add (er_var 1) (er_n rc_len (ar_cons (er_call (ar_cons (er_var 0) ar_nil)) ar_nil)))))) : SR K _ (t_log_end))
theorem sc_law_cell : FnScope N_law_cell ["script", "k"] (defScope s_law_cell) := ⟨rfl, rfl, rfl, by decide +kernel, rfl, by decide +kernel, by decide +kernel⟩
theorem ok_law_cell (T : Txt K mg) : FnOk P w K mg base CX0 1 T.f_law_cell T.fd_law_cell ["script", "k"] (spG K 2 (g_law_cell)) := by
  refine fnG (m := 0) T.F_law_cell sc_law_cell rfl rfl (fun cdv A outer s H E hr => ?_)
  have hu := hr.units
  refine ⟨_, (pss_cons (ps_if (pt_cmpR op_lt (pv 1) (pe_callB call_lenA (by rfl) T.m_len bt_len (pa_cons (pv 0) pa_nil)) (nomark _))
 (pss_one (ps_ret (pe_ix ix_seq (pv 0) (pv 1) (fun _ _ => rfl))))
 pss_nil)
 (pss_one (ps_ret pe_int))), ?_⟩
  exact ((sr_seq (sr_if (tr_test (er_2 rr_lt (er_var 1) (er_n rc_len (ar_cons (er_var 0) ar_nil))))
 (sr_ret (er_2 rr_ix (er_var 0) (er_var 1)))
 sr_next)
 (sr_ret er_int)) : SR K _ (t_law_cell))
theorem sc_law_draws : FnScope N_law_draws ["cell", "sizes"] (defScope s_law_draws) := ⟨rfl, rfl, rfl, by decide +kernel, rfl, by decide +kernel, by decide +kernel⟩
theorem ok_law_draws (T : Txt K mg) : FnOk P w K mg base CX0 1 T.f_law_draws T.fd_law_draws ["cell", "sizes"] (spG K 2 (g_law_draws)) := by
  refine fnG (m := 6) T.F_law_draws sc_law_draws rfl rfl (fun cdv A outer s H E hr => ?_)
  have hu := hr.units
  refine ⟨_, (pss_cons (ps_set (i := 2) sc_law_draws.nd rfl (by first | exact Or.inl rfl | exact Or.inr rfl) (pe_callB call_abs (by rfl) T.m_abs bt_abs (pa_cons (pe_callTy call_int1 (by rfl) T.m_int bt_int (pa_cons (pv 0) pa_nil)) pa_nil)))
 (pss_cons (ps_set (i := 3) sc_law_draws.nd rfl (by first | exact Or.inl rfl | exact Or.inr rfl) (pe_cmpR op_ge (pv 2) (pe_op op_pow pe_int pe_int) (nomark _)))
 (pss_cons (ps_set (i := 4) sc_law_draws.nd rfl (by first | exact Or.inl rfl | exact Or.inr rfl) (pe_lst pa_nil))
 (pss_cons (ps_for PassesOwn.never rfl (pi_range1 (by rfl) T.m_range (pa_cons (pe_callB call_lenA (by rfl) T.m_len bt_len (pa_cons (pv 1) pa_nil)) pa_nil)) (pg_name (i := 5) sc_law_draws.nd rfl (by first | exact Or.inl rfl | exact Or.inr rfl))
 (pss_cons (ps_set (i := 6) sc_law_draws.nd rfl (by first | exact Or.inl rfl | exact Or.inr rfl) (pe_ix ix_seq (pv 1) (pv 5) (fun _ _ => rfl)))
 (pss_one (ps_if ((pw_and (pt_truth (pv 3) (fun _ => rfl)) (pw_and1 (pt_cmpR op_gt (pv 2) pe_int (nomark _))))).pt
 (pss_cons (ps_expr (pe_bm PySem.F.plainAttrs_list PySem.F.slot_list_append PySem.F.type_list_append mt_append (pv 4) (pa_cons (pe_op op_mod (pe_callTy call_int1 (by rfl) T.m_int bt_int (pa_cons (pv 2) pa_nil)) (pv 6)) pa_nil)))
 (pss_one (ps_set (i := 2) sc_law_draws.nd rfl (by first | exact Or.inl rfl | exact Or.inr rfl) (pe_op op_fdivW (pv 2) (pv 6)))))
 (pss_cons (ps_set (i := 7) sc_law_draws.nd rfl (by first | exact Or.inl rfl | exact Or.inr rfl) (pe_op op_mod (pe_callTy call_int1 (by rfl) T.m_int bt_int (pa_cons (pe_op op_addA (pe_op op_addA (pe_callB call_abs (by rfl) T.m_abs bt_abs (pa_cons (pe_callTy call_int1 (by rfl) T.m_int bt_int (pa_cons (pv 0) pa_nil)) pa_nil)) (pe_op op_mulA pe_int (pv 5))) pe_int) pa_nil)) pe_int))
 (pss_cons (ps_set (i := 7) sc_law_draws.nd rfl (by first | exact Or.inl rfl | exact Or.inr rfl) (pe_op op_mod (pe_callTy call_int1 (by rfl) T.m_int bt_int (pa_cons (pe_op op_mulA (pv 7) (pe_op op_addA (pv 7) pe_int)) pa_nil)) pe_int))
 (pss_cons (ps_set (i := 7) sc_law_draws.nd rfl (by first | exact Or.inl rfl | exact Or.inr rfl) (pe_op op_mod (pe_callTy call_int1 (by rfl) T.m_int bt_int (pa_cons (pe_op op_addA (pe_op op_mulA (pv 7) (pe_op op_addA (pv 7) pe_int)) (pe_op op_mulA pe_int (pv 5))) pa_nil)) pe_int))
 (pss_one (ps_expr (pe_bm PySem.F.plainAttrs_list PySem.F.slot_list_append PySem.F.type_list_append mt_append (pv 4) (pa_cons (pe_op op_mod (pe_callTy call_int1 (by rfl) T.m_int bt_int (pa_cons (pe_op op_fdivW (pv 7) pe_int) pa_nil)) (pv 6)) pa_nil)))))))))))
 (pss_one (ps_ret (pv 4))))))), ?_⟩
  exact ((sr_seq (sr_asg (er_n rc_abs (ar_cons (er_n rc_int (ar_cons (er_var 0) ar_nil)) ar_nil)) (gr'_name 2))
 (sr_seq (sr_asg (er_2 rr_ge (er_var 2) (er_2 rr_pow er_int er_int)) (gr'_name 3))
 (sr_seq (sr_asgO (eo_lst ar_nil))
 (sr_seq (sr_for (ir_rng1 (ar_cons (er_n rc_len (ar_cons (er_var 1) ar_nil)) ar_nil)) (gr'_name 5)
 (sr_seq (sr_asg (er_2 rr_ix (er_var 1) (er_var 5)) (gr'_name 6))
 (sr_if (tr_and (tr_tru (er_var 3)) (tr_test (er_2 rr_gt (er_var 2) er_int)))
 (sr_seq (sr_app (i := 4) (er_2 rr_mod (er_n rc_int (ar_cons (er_var 2) ar_nil)) (er_var 6)))
 (sr_asg (er_2 rr_fdiv (er_var 2) (er_var 6)) (gr'_name 2)))
 (sr_seq (sr_asg (er_2 rr_mod (er_n rc_int (ar_cons (er_2 rr_add (er_2 rr_add (er_n rc_abs (ar_cons (er_n rc_int (ar_cons (er_var 0) ar_nil)) ar_nil)) (er_2 rr_mul er_int (er_var 5))) er_int) ar_nil)) er_int) (gr'_name 7))
 (sr_seq (sr_asg (er_2 rr_mod (er_n rc_int (ar_cons (er_2 rr_mul (er_var 7) (er_2 rr_add (er_var 7) er_int)) ar_nil)) er_int) (gr'_name 7))
 (sr_seq (sr_asg (er_2 rr_mod (er_n rc_int (ar_cons (er_2 rr_add (er_2 rr_mul (er_var 7) (er_2 rr_add (er_var 7) er_int)) (er_2 rr_mul er_int (er_var 5))) ar_nil)) er_int) (gr'_name 7))
 (sr_app (i := 4) (er_2 rr_mod (er_n rc_int (ar_cons (er_2 rr_fdiv (er_var 7) er_int) ar_nil)) (er_var 6)))))))))
 (sr_retV 4))))) : SR K _ (t_law_draws))
theorem sc_law_sign : FnScope N_law_sign ["number"] (defScope s_law_sign) := ⟨rfl, rfl, rfl, by decide +kernel, rfl, by decide +kernel, by decide +kernel⟩
theorem ok_law_sign (T : Txt K mg) : FnOk P w K mg base CX0 1 T.f_law_sign T.fd_law_sign ["number"] (spG K 1 (g_law_sign)) := by
  refine fnG (m := 1) T.F_law_sign sc_law_sign rfl rfl (fun cdv A outer s H E hr => ?_)
  have hu := hr.units
  refine ⟨_, (pss_cons (ps_set (i := 1) sc_law_sign.nd rfl (by first | exact Or.inl rfl | exact Or.inr rfl) pe_str)
 (pss_cons (ps_set (i := 1) sc_law_sign.nd rfl (by first | exact Or.inl rfl | exact Or.inr rfl) (pe_op op_addA (pv 1) pe_str))
 (pss_one (ps_ret (pe_ix ix_seq (pv 1) (pe_op op_mod (pe_callTy call_int1 (by rfl) T.m_int bt_int (pa_cons (pv 0) pa_nil)) pe_int) (fun _ _ => rfl)))))), ?_⟩
  exact ((sr_seq (sr_asg er_str (gr'_name 1))
 (sr_seq (sr_asg (er_2 rr_add (er_var 1) er_str) (gr'_name 1))
 (sr_ret (er_2 rr_ix (er_var 1) (er_2 rr_mod (er_n rc_int (ar_cons (er_var 0) ar_nil)) er_int))))) : SR K _ (t_law_sign))
theorem sc_law_is_integer : FnScope N_law_is_integer ["actual"] (defScope s_law_is_integer) := ⟨rfl, rfl, rfl, by decide +kernel, rfl, by decide +kernel, by decide +kernel⟩
theorem ok_law_is_integer (T : Txt K mg) : FnOk P w K mg base CX0 1 T.f_law_is_integer T.fd_law_is_integer ["actual"] (spG K 1 (g_law_is_integer)) := by
  refine fnG (m := 0) T.F_law_is_integer sc_law_is_integer rfl rfl (fun cdv A outer s H E hr => ?_)
  have hu := hr.units
  refine ⟨_, (pss_one (ps_ret (pe_and (pe_callB call_isi (by rfl) T.m_isinstance bt_isinstance (pa_cons (pv 0) (pa_cons (pe_bltn (v := .ty "int") (by rfl) T.m_int bt_int rfl) pa_nil))) (pe_one (pe_not (pe_callB call_isi (by rfl) T.m_isinstance bt_isinstance (pa_cons (pv 0) (pa_cons (pe_bltn (v := .ty "bool") (by rfl) T.m_bool bt_bool rfl) pa_nil)))))))), ?_⟩
  exact ((sr_ret (er_and (er_n rc_isi (ar_cons (er_var 0) (ar_cons er_ty ar_nil))) (er_not (er_n rc_isi (ar_cons (er_var 0) (ar_cons er_ty ar_nil)))))) : SR K _ (t_law_is_integer))
theorem sc_law_names : FnScope N_law_names ["cell"] (defScope s_law_names) := ⟨rfl, rfl, rfl, by decide +kernel, rfl, by decide +kernel, by decide +kernel⟩
theorem ok_law_names (T : Txt K mg) : FnOk P w K mg base CX0 2 T.f_law_names T.fd_law_names ["cell"] (spG K 1 (g_law_names)) := by
  have G_law_draws := ok_law_draws (P := P) (w := w) (base := base) T
  refine fnG (m := 6) T.F_law_names sc_law_names rfl rfl (fun cdv A outer s H E hr => ?_)
  have hu := hr.units
  refine ⟨_, (pss_cons (ps_set (i := 1) sc_law_names.nd rfl (by first | exact Or.inl rfl | exact Or.inr rfl) (pe_call G_law_draws (hr.mono (by decide)) (by rfl) T.g_law_draws T.F_law_draws.kp T.b_law_draws .nil pass0 (pa_cons (pv 0) (pa_cons (pe_op op_addA (pe_op op_addA (pe_op op_mulA (pe_lst (pa_cons pe_int pa_nil)) pe_int) (pe_op op_mulA (pe_lst (pa_cons pe_int pa_nil)) pe_int)) (pe_op op_mulA (pe_lst (pa_cons pe_int pa_nil)) pe_int)) pa_nil))))
 (pss_cons (ps_set (i := 2) sc_law_names.nd rfl (by first | exact Or.inl rfl | exact Or.inr rfl) pe_str)
 (pss_cons (ps_set (i := 3) sc_law_names.nd rfl (by first | exact Or.inl rfl | exact Or.inr rfl) (pe_m1 PySem.F.slot_str_join PySem.F.type_str_join mt_join pe_str (pe_lc (own := [("k", 5)]) (g := (gName 5)) (tt := tYes) (te := (tOp (rIx K) (tVar 2) (tOp (rIx K) (tVar 1) (tVar 5)))) rfl sc_law_names.nd (pi_range1 (by rfl) T.m_range (pa_cons pe_int pa_nil)) (blkOk_by (N := N_law_names) (sc := defScope s_law_names) (by decide +kernel)) (fun _ _ _ _ _ => (pg_name (i := 5) sc_law_names.nd rfl (by first | exact Or.inl rfl | exact Or.inr rfl))) (fun _ _ _ _ _ => pts_nil) (fun _ _ _ _ _ => (pe_ix ix_seq (pv 2) (pe_ix ix_seq (pv 1) (pv 5) (fun _ _ => rfl)) (fun _ _ => rfl))))))
 (pss_cons (ps_set (i := 4) sc_law_names.nd rfl (by first | exact Or.inl rfl | exact Or.inr rfl) (pe_lst pa_nil))
 (pss_cons (ps_for PassesOwn.never rfl (pi_range1 (by rfl) T.m_range (pa_cons pe_int pa_nil)) (pg_name (i := 5) sc_law_names.nd rfl (by first | exact Or.inl rfl | exact Or.inr rfl))
 (pss_cons (ps_set (i := 6) sc_law_names.nd rfl (by first | exact Or.inl rfl | exact Or.inr rfl) (pe_ix ix_seq (pv 1) (pe_op op_addA pe_int (pv 5)) (fun _ _ => rfl)))
 (pss_one (ps_expr (pe_bm PySem.F.plainAttrs_list PySem.F.slot_list_append PySem.F.type_list_append mt_append (pv 4) (pa_cons (pe_op op_addA (pe_slice C8.sl_txt (pv 3) po_none (po_some (pv 6))) (pe_ix ix_seq (pv 2) (pe_ix ix_seq (pv 1) (pe_op op_addA pe_int (pv 5)) (fun _ _ => rfl)) (fun _ _ => rfl))) pa_nil))))))
 (pss_one (ps_ret (pv 4)))))))), ?_⟩
  exact ((sr_seq (sr_asg (er_call (ar_cons (er_var 0) (ar_cons (er_2 rr_add (er_2 rr_add (er_2 rr_mul (er_lst (ar_cons er_int ar_nil)) er_int) (er_2 rr_mul (er_lst (ar_cons er_int ar_nil)) er_int)) (er_2 rr_mul (er_lst (ar_cons er_int ar_nil)) er_int)) ar_nil))) (gr'_name 1))
 (sr_seq (sr_asg er_str (gr'_name 2))
 (sr_seq (sr_asg (Zj.er_m1 Zj.rm_join er_str (er_of_eo (eo_lc (vs := [5]) (ir_rng1 (ar_cons er_int ar_nil)) (grc_name (j := 5) (by decide)) tr_yes (er_2 rr_ix (er_var 2) (er_2 rr_ix (er_var 1) (er_var 5)))))) (gr'_name 3))
 (sr_seq (sr_asgO (eo_lst ar_nil))
 (sr_seq (sr_for (ir_rng1 (ar_cons er_int ar_nil)) (gr'_name 5)
 (sr_seq (sr_asg (er_2 rr_ix (er_var 1) (er_2 rr_add er_int (er_var 5))) (gr'_name 6))
 (sr_app (i := 4) (er_2 rr_add (Zj.er_slS (er_var 3) or_none (or_some (er_var 6))) (er_2 rr_ix (er_var 2) (er_2 rr_ix (er_var 1) (er_2 rr_add er_int (er_var 5))))))))
 (sr_retV 4)))))) : SR K _ (t_law_names))
theorem sc_law_alike : FnScope N_law_alike ["actual", "due"] (defScope s_law_alike) := ⟨rfl, rfl, rfl, by decide +kernel, rfl, by decide +kernel, by decide +kernel⟩
theorem ok_law_alikeU0 (T : Txt K mg) : FnOk P w K mg base CX0 2 T.f_law_alike T.fd_law_alike ["actual", "due"] (spG K 2 (g_law_alikeU0)) := by
  have G_law_is_integer := ok_law_is_integer (P := P) (w := w) (base := base) T
  refine fnG (m := 1) T.F_law_alike sc_law_alike rfl rfl (fun cdv A outer s H E hr => ?_)
  have hu := hr.units
  refine ⟨_, (pss_cons (ps_if (pt_truth (pe_callB call_isi (by rfl) T.m_isinstance bt_isinstance (pa_cons (pv 1) (pa_cons (pe_bltn (v := .ty "str") (by rfl) T.m_str bt_str rfl) pa_nil))) (fun _ => rfl))
 (pss_one (ps_ret (pe_and (pe_callB call_isi (by rfl) T.m_isinstance bt_isinstance (pa_cons (pv 0) (pa_cons (pe_bltn (v := .ty "str") (by rfl) T.m_str bt_str rfl) pa_nil))) (pe_one (pe_cmpR (op_eqD hu) (pv 0) (pv 1) (nomark _))))))
 pss_nil)
 (pss_cons (ps_if (pt_not (pt_truth (pe_callB call_isi (by rfl) T.m_isinstance bt_isinstance (pa_cons (pv 1) (pa_cons (pe_bltn (v := .ty "tuple") (by rfl) T.m_tuple bt_tuple rfl) pa_nil))) (fun _ => rfl)))
 (pss_one (ps_ret (pe_and (pe_call G_law_is_integer (hr.mono (by decide)) (by rfl) T.g_law_is_integer T.F_law_is_integer.kp T.b_law_is_integer .nil pass0 (pa_cons (pv 0) pa_nil)) (pe_one (pe_cmpR (op_eqD hu) (pv 0) (pv 1) (nomark _))))))
 pss_nil)
 (pss_cons (ps_if ((pw_or (pt_not (pt_truth (pe_callB call_isi (by rfl) T.m_isinstance bt_isinstance (pa_cons (pv 0) (pa_cons (pe_bltn (v := .ty "tuple") (by rfl) T.m_tuple bt_tuple rfl) pa_nil))) (fun _ => rfl))) (pw_or1 (pt_cmpR (op_neD hu) (pe_callB call_lenA (by rfl) T.m_len bt_len (pa_cons (pv 0) pa_nil)) (pe_callB call_lenA (by rfl) T.m_len bt_len (pa_cons (pv 1) pa_nil)) (nomark _))))).pt
 (pss_one (ps_ret pe_bl))
 pss_nil)
 (pss_cons (ps_for PassesOwn.never rfl (pi_range1 (by rfl) T.m_range (pa_cons (pe_callB call_lenA (by rfl) T.m_len bt_len (pa_cons (pv 1) pa_nil)) pa_nil)) (pg_name (i := 2) sc_law_alike.nd rfl (by first | exact Or.inl rfl | exact Or.inr rfl))
 (pss_one (ps_if (pt_not (pt_truth Zq9.pe_no (fun _ => rfl)))
 (pss_one (ps_ret pe_bl))
 pss_nil)))
 (pss_one (ps_ret pe_bl)))))), ?_⟩
  exact ((sr_seq (sr_if (tr_tru (er_n rc_isi (ar_cons (er_var 1) (ar_cons er_ty ar_nil))))
 (sr_ret (er_and (er_n rc_isi (ar_cons (er_var 0) (ar_cons er_ty ar_nil))) (er_2 rr_eq (er_var 0) (er_var 1))))
 sr_next)
 (sr_seq (sr_if (tr_not (tr_tru (er_n rc_isi (ar_cons (er_var 1) (ar_cons er_ty ar_nil)))))
 (sr_ret (er_and (er_call (ar_cons (er_var 0) ar_nil)) (er_2 rr_eq (er_var 0) (er_var 1))))
 sr_next)
 (sr_seq (sr_if (tr_or (tr_not (tr_tru (er_n rc_isi (ar_cons (er_var 0) (ar_cons er_ty ar_nil))))) (tr_test (er_2 rr_ne (er_n rc_len (ar_cons (er_var 0) ar_nil)) (er_n rc_len (ar_cons (er_var 1) ar_nil)))))
 (sr_ret er_bl)
 sr_next)
 (sr_seq (sr_for (ir_rng1 (ar_cons (er_n rc_len (ar_cons (er_var 1) ar_nil)) ar_nil)) (gr'_name 2)
 (sr_if (tr_not (tr_tru Zq9.er_no))
 (sr_ret er_bl)
 sr_next))
 (sr_ret er_bl))))) : SR K _ (t_law_alikeU0))
theorem ok_law_alikeU1 (T : Txt K mg) : FnOk P w K mg base CX0 3 T.f_law_alike T.fd_law_alike ["actual", "due"] (spG K 2 (g_law_alikeU1)) := by
  have G_law_is_integer := ok_law_is_integer (P := P) (w := w) (base := base) T
  have G_law_alikeU0 := ok_law_alikeU0 (P := P) (w := w) (base := base) T
  refine fnG (m := 1) T.F_law_alike sc_law_alike rfl rfl (fun cdv A outer s H E hr => ?_)
  have hu := hr.units
  refine ⟨_, (pss_cons (ps_if (pt_truth (pe_callB call_isi (by rfl) T.m_isinstance bt_isinstance (pa_cons (pv 1) (pa_cons (pe_bltn (v := .ty "str") (by rfl) T.m_str bt_str rfl) pa_nil))) (fun _ => rfl))
 (pss_one (ps_ret (pe_and (pe_callB call_isi (by rfl) T.m_isinstance bt_isinstance (pa_cons (pv 0) (pa_cons (pe_bltn (v := .ty "str") (by rfl) T.m_str bt_str rfl) pa_nil))) (pe_one (pe_cmpR (op_eqD hu) (pv 0) (pv 1) (nomark _))))))
 pss_nil)
 (pss_cons (ps_if (pt_not (pt_truth (pe_callB call_isi (by rfl) T.m_isinstance bt_isinstance (pa_cons (pv 1) (pa_cons (pe_bltn (v := .ty "tuple") (by rfl) T.m_tuple bt_tuple rfl) pa_nil))) (fun _ => rfl)))
 (pss_one (ps_ret (pe_and (pe_call G_law_is_integer (hr.mono (by decide)) (by rfl) T.g_law_is_integer T.F_law_is_integer.kp T.b_law_is_integer .nil pass0 (pa_cons (pv 0) pa_nil)) (pe_one (pe_cmpR (op_eqD hu) (pv 0) (pv 1) (nomark _))))))
 pss_nil)
 (pss_cons (ps_if ((pw_or (pt_not (pt_truth (pe_callB call_isi (by rfl) T.m_isinstance bt_isinstance (pa_cons (pv 0) (pa_cons (pe_bltn (v := .ty "tuple") (by rfl) T.m_tuple bt_tuple rfl) pa_nil))) (fun _ => rfl))) (pw_or1 (pt_cmpR (op_neD hu) (pe_callB call_lenA (by rfl) T.m_len bt_len (pa_cons (pv 0) pa_nil)) (pe_callB call_lenA (by rfl) T.m_len bt_len (pa_cons (pv 1) pa_nil)) (nomark _))))).pt
 (pss_one (ps_ret pe_bl))
 pss_nil)
 (pss_cons (ps_for PassesOwn.never rfl (pi_range1 (by rfl) T.m_range (pa_cons (pe_callB call_lenA (by rfl) T.m_len bt_len (pa_cons (pv 1) pa_nil)) pa_nil)) (pg_name (i := 2) sc_law_alike.nd rfl (by first | exact Or.inl rfl | exact Or.inr rfl))
 (pss_one (ps_if (pt_not (pt_truth (pe_call G_law_alikeU0 (hr.mono (by decide)) (by rfl) T.g_law_alike T.F_law_alike.kp T.b_law_alike .nil pass0 (pa_cons (pe_ix ix_seq (pv 0) (pv 2) (fun _ _ => rfl)) (pa_cons (pe_ix ix_seq (pv 1) (pv 2) (fun _ _ => rfl)) pa_nil))) (fun _ => rfl)))
 (pss_one (ps_ret pe_bl))
 pss_nil)))
 (pss_one (ps_ret pe_bl)))))), ?_⟩
  exact ((sr_seq (sr_if (tr_tru (er_n rc_isi (ar_cons (er_var 1) (ar_cons er_ty ar_nil))))
 (sr_ret (er_and (er_n rc_isi (ar_cons (er_var 0) (ar_cons er_ty ar_nil))) (er_2 rr_eq (er_var 0) (er_var 1))))
 sr_next)
 (sr_seq (sr_if (tr_not (tr_tru (er_n rc_isi (ar_cons (er_var 1) (ar_cons er_ty ar_nil)))))
 (sr_ret (er_and (er_call (ar_cons (er_var 0) ar_nil)) (er_2 rr_eq (er_var 0) (er_var 1))))
 sr_next)
 (sr_seq (sr_if (tr_or (tr_not (tr_tru (er_n rc_isi (ar_cons (er_var 0) (ar_cons er_ty ar_nil))))) (tr_test (er_2 rr_ne (er_n rc_len (ar_cons (er_var 0) ar_nil)) (er_n rc_len (ar_cons (er_var 1) ar_nil)))))
 (sr_ret er_bl)
 sr_next)
 (sr_seq (sr_for (ir_rng1 (ar_cons (er_n rc_len (ar_cons (er_var 1) ar_nil)) ar_nil)) (gr'_name 2)
 (sr_if (tr_not (tr_tru (er_call (ar_cons (er_2 rr_ix (er_var 0) (er_var 2)) (ar_cons (er_2 rr_ix (er_var 1) (er_var 2)) ar_nil)))))
 (sr_ret er_bl)
 sr_next))
 (sr_ret er_bl))))) : SR K _ (t_law_alikeU1))
theorem ok_law_alikeU2 (T : Txt K mg) : FnOk P w K mg base CX0 4 T.f_law_alike T.fd_law_alike ["actual", "due"] (spG K 2 (g_law_alikeU2)) := by
  have G_law_is_integer := ok_law_is_integer (P := P) (w := w) (base := base) T
  have G_law_alikeU1 := ok_law_alikeU1 (P := P) (w := w) (base := base) T
  refine fnG (m := 1) T.F_law_alike sc_law_alike rfl rfl (fun cdv A outer s H E hr => ?_)
  have hu := hr.units
  refine ⟨_, (pss_cons (ps_if (pt_truth (pe_callB call_isi (by rfl) T.m_isinstance bt_isinstance (pa_cons (pv 1) (pa_cons (pe_bltn (v := .ty "str") (by rfl) T.m_str bt_str rfl) pa_nil))) (fun _ => rfl))
 (pss_one (ps_ret (pe_and (pe_callB call_isi (by rfl) T.m_isinstance bt_isinstance (pa_cons (pv 0) (pa_cons (pe_bltn (v := .ty "str") (by rfl) T.m_str bt_str rfl) pa_nil))) (pe_one (pe_cmpR (op_eqD hu) (pv 0) (pv 1) (nomark _))))))
 pss_nil)
 (pss_cons (ps_if (pt_not (pt_truth (pe_callB call_isi (by rfl) T.m_isinstance bt_isinstance (pa_cons (pv 1) (pa_cons (pe_bltn (v := .ty "tuple") (by rfl) T.m_tuple bt_tuple rfl) pa_nil))) (fun _ => rfl)))
 (pss_one (ps_ret (pe_and (pe_call G_law_is_integer (hr.mono (by decide)) (by rfl) T.g_law_is_integer T.F_law_is_integer.kp T.b_law_is_integer .nil pass0 (pa_cons (pv 0) pa_nil)) (pe_one (pe_cmpR (op_eqD hu) (pv 0) (pv 1) (nomark _))))))
 pss_nil)
 (pss_cons (ps_if ((pw_or (pt_not (pt_truth (pe_callB call_isi (by rfl) T.m_isinstance bt_isinstance (pa_cons (pv 0) (pa_cons (pe_bltn (v := .ty "tuple") (by rfl) T.m_tuple bt_tuple rfl) pa_nil))) (fun _ => rfl))) (pw_or1 (pt_cmpR (op_neD hu) (pe_callB call_lenA (by rfl) T.m_len bt_len (pa_cons (pv 0) pa_nil)) (pe_callB call_lenA (by rfl) T.m_len bt_len (pa_cons (pv 1) pa_nil)) (nomark _))))).pt
 (pss_one (ps_ret pe_bl))
 pss_nil)
 (pss_cons (ps_for PassesOwn.never rfl (pi_range1 (by rfl) T.m_range (pa_cons (pe_callB call_lenA (by rfl) T.m_len bt_len (pa_cons (pv 1) pa_nil)) pa_nil)) (pg_name (i := 2) sc_law_alike.nd rfl (by first | exact Or.inl rfl | exact Or.inr rfl))
 (pss_one (ps_if (pt_not (pt_truth (pe_call G_law_alikeU1 (hr.mono (by decide)) (by rfl) T.g_law_alike T.F_law_alike.kp T.b_law_alike .nil pass0 (pa_cons (pe_ix ix_seq (pv 0) (pv 2) (fun _ _ => rfl)) (pa_cons (pe_ix ix_seq (pv 1) (pv 2) (fun _ _ => rfl)) pa_nil))) (fun _ => rfl)))
 (pss_one (ps_ret pe_bl))
 pss_nil)))
 (pss_one (ps_ret pe_bl)))))), ?_⟩
  exact ((sr_seq (sr_if (tr_tru (er_n rc_isi (ar_cons (er_var 1) (ar_cons er_ty ar_nil))))
 (sr_ret (er_and (er_n rc_isi (ar_cons (er_var 0) (ar_cons er_ty ar_nil))) (er_2 rr_eq (er_var 0) (er_var 1))))
 sr_next)
 (sr_seq (sr_if (tr_not (tr_tru (er_n rc_isi (ar_cons (er_var 1) (ar_cons er_ty ar_nil)))))
 (sr_ret (er_and (er_call (ar_cons (er_var 0) ar_nil)) (er_2 rr_eq (er_var 0) (er_var 1))))
 sr_next)
 (sr_seq (sr_if (tr_or (tr_not (tr_tru (er_n rc_isi (ar_cons (er_var 0) (ar_cons er_ty ar_nil))))) (tr_test (er_2 rr_ne (er_n rc_len (ar_cons (er_var 0) ar_nil)) (er_n rc_len (ar_cons (er_var 1) ar_nil)))))
 (sr_ret er_bl)
 sr_next)
 (sr_seq (sr_for (ir_rng1 (ar_cons (er_n rc_len (ar_cons (er_var 1) ar_nil)) ar_nil)) (gr'_name 2)
 (sr_if (tr_not (tr_tru (er_call (ar_cons (er_2 rr_ix (er_var 0) (er_var 2)) (ar_cons (er_2 rr_ix (er_var 1) (er_var 2)) ar_nil)))))
 (sr_ret er_bl)
 sr_next))
 (sr_ret er_bl))))) : SR K _ (t_law_alikeU2))
theorem ok_law_alikeU3 (T : Txt K mg) : FnOk P w K mg base CX0 5 T.f_law_alike T.fd_law_alike ["actual", "due"] (spG K 2 (g_law_alikeU3)) := by
  have G_law_is_integer := ok_law_is_integer (P := P) (w := w) (base := base) T
  have G_law_alikeU2 := ok_law_alikeU2 (P := P) (w := w) (base := base) T
  refine fnG (m := 1) T.F_law_alike sc_law_alike rfl rfl (fun cdv A outer s H E hr => ?_)
  have hu := hr.units
  refine ⟨_, (pss_cons (ps_if (pt_truth (pe_callB call_isi (by rfl) T.m_isinstance bt_isinstance (pa_cons (pv 1) (pa_cons (pe_bltn (v := .ty "str") (by rfl) T.m_str bt_str rfl) pa_nil))) (fun _ => rfl))
 (pss_one (ps_ret (pe_and (pe_callB call_isi (by rfl) T.m_isinstance bt_isinstance (pa_cons (pv 0) (pa_cons (pe_bltn (v := .ty "str") (by rfl) T.m_str bt_str rfl) pa_nil))) (pe_one (pe_cmpR (op_eqD hu) (pv 0) (pv 1) (nomark _))))))
 pss_nil)
 (pss_cons (ps_if (pt_not (pt_truth (pe_callB call_isi (by rfl) T.m_isinstance bt_isinstance (pa_cons (pv 1) (pa_cons (pe_bltn (v := .ty "tuple") (by rfl) T.m_tuple bt_tuple rfl) pa_nil))) (fun _ => rfl)))
 (pss_one (ps_ret (pe_and (pe_call G_law_is_integer (hr.mono (by decide)) (by rfl) T.g_law_is_integer T.F_law_is_integer.kp T.b_law_is_integer .nil pass0 (pa_cons (pv 0) pa_nil)) (pe_one (pe_cmpR (op_eqD hu) (pv 0) (pv 1) (nomark _))))))
 pss_nil)
 (pss_cons (ps_if ((pw_or (pt_not (pt_truth (pe_callB call_isi (by rfl) T.m_isinstance bt_isinstance (pa_cons (pv 0) (pa_cons (pe_bltn (v := .ty "tuple") (by rfl) T.m_tuple bt_tuple rfl) pa_nil))) (fun _ => rfl))) (pw_or1 (pt_cmpR (op_neD hu) (pe_callB call_lenA (by rfl) T.m_len bt_len (pa_cons (pv 0) pa_nil)) (pe_callB call_lenA (by rfl) T.m_len bt_len (pa_cons (pv 1) pa_nil)) (nomark _))))).pt
 (pss_one (ps_ret pe_bl))
 pss_nil)
 (pss_cons (ps_for PassesOwn.never rfl (pi_range1 (by rfl) T.m_range (pa_cons (pe_callB call_lenA (by rfl) T.m_len bt_len (pa_cons (pv 1) pa_nil)) pa_nil)) (pg_name (i := 2) sc_law_alike.nd rfl (by first | exact Or.inl rfl | exact Or.inr rfl))
 (pss_one (ps_if (pt_not (pt_truth (pe_call G_law_alikeU2 (hr.mono (by decide)) (by rfl) T.g_law_alike T.F_law_alike.kp T.b_law_alike .nil pass0 (pa_cons (pe_ix ix_seq (pv 0) (pv 2) (fun _ _ => rfl)) (pa_cons (pe_ix ix_seq (pv 1) (pv 2) (fun _ _ => rfl)) pa_nil))) (fun _ => rfl)))
 (pss_one (ps_ret pe_bl))
 pss_nil)))
 (pss_one (ps_ret pe_bl)))))), ?_⟩
  exact ((sr_seq (sr_if (tr_tru (er_n rc_isi (ar_cons (er_var 1) (ar_cons er_ty ar_nil))))
 (sr_ret (er_and (er_n rc_isi (ar_cons (er_var 0) (ar_cons er_ty ar_nil))) (er_2 rr_eq (er_var 0) (er_var 1))))
 sr_next)
 (sr_seq (sr_if (tr_not (tr_tru (er_n rc_isi (ar_cons (er_var 1) (ar_cons er_ty ar_nil)))))
 (sr_ret (er_and (er_call (ar_cons (er_var 0) ar_nil)) (er_2 rr_eq (er_var 0) (er_var 1))))
 sr_next)
 (sr_seq (sr_if (tr_or (tr_not (tr_tru (er_n rc_isi (ar_cons (er_var 0) (ar_cons er_ty ar_nil))))) (tr_test (er_2 rr_ne (er_n rc_len (ar_cons (er_var 0) ar_nil)) (er_n rc_len (ar_cons (er_var 1) ar_nil)))))
 (sr_ret er_bl)
 sr_next)
 (sr_seq (sr_for (ir_rng1 (ar_cons (er_n rc_len (ar_cons (er_var 1) ar_nil)) ar_nil)) (gr'_name 2)
 (sr_if (tr_not (tr_tru (er_call (ar_cons (er_2 rr_ix (er_var 0) (er_var 2)) (ar_cons (er_2 rr_ix (er_var 1) (er_var 2)) ar_nil)))))
 (sr_ret er_bl)
 sr_next))
 (sr_ret er_bl))))) : SR K _ (t_law_alikeU3))
theorem ok_law_alikeU4 (T : Txt K mg) : FnOk P w K mg base CX0 6 T.f_law_alike T.fd_law_alike ["actual", "due"] (spG K 2 (g_law_alikeU4)) := by
  have G_law_is_integer := ok_law_is_integer (P := P) (w := w) (base := base) T
  have G_law_alikeU3 := ok_law_alikeU3 (P := P) (w := w) (base := base) T
  refine fnG (m := 1) T.F_law_alike sc_law_alike rfl rfl (fun cdv A outer s H E hr => ?_)
  have hu := hr.units
  refine ⟨_, (pss_cons (ps_if (pt_truth (pe_callB call_isi (by rfl) T.m_isinstance bt_isinstance (pa_cons (pv 1) (pa_cons (pe_bltn (v := .ty "str") (by rfl) T.m_str bt_str rfl) pa_nil))) (fun _ => rfl))
 (pss_one (ps_ret (pe_and (pe_callB call_isi (by rfl) T.m_isinstance bt_isinstance (pa_cons (pv 0) (pa_cons (pe_bltn (v := .ty "str") (by rfl) T.m_str bt_str rfl) pa_nil))) (pe_one (pe_cmpR (op_eqD hu) (pv 0) (pv 1) (nomark _))))))
 pss_nil)
 (pss_cons (ps_if (pt_not (pt_truth (pe_callB call_isi (by rfl) T.m_isinstance bt_isinstance (pa_cons (pv 1) (pa_cons (pe_bltn (v := .ty "tuple") (by rfl) T.m_tuple bt_tuple rfl) pa_nil))) (fun _ => rfl)))
 (pss_one (ps_ret (pe_and (pe_call G_law_is_integer (hr.mono (by decide)) (by rfl) T.g_law_is_integer T.F_law_is_integer.kp T.b_law_is_integer .nil pass0 (pa_cons (pv 0) pa_nil)) (pe_one (pe_cmpR (op_eqD hu) (pv 0) (pv 1) (nomark _))))))
 pss_nil)
 (pss_cons (ps_if ((pw_or (pt_not (pt_truth (pe_callB call_isi (by rfl) T.m_isinstance bt_isinstance (pa_cons (pv 0) (pa_cons (pe_bltn (v := .ty "tuple") (by rfl) T.m_tuple bt_tuple rfl) pa_nil))) (fun _ => rfl))) (pw_or1 (pt_cmpR (op_neD hu) (pe_callB call_lenA (by rfl) T.m_len bt_len (pa_cons (pv 0) pa_nil)) (pe_callB call_lenA (by rfl) T.m_len bt_len (pa_cons (pv 1) pa_nil)) (nomark _))))).pt
 (pss_one (ps_ret pe_bl))
 pss_nil)
 (pss_cons (ps_for PassesOwn.never rfl (pi_range1 (by rfl) T.m_range (pa_cons (pe_callB call_lenA (by rfl) T.m_len bt_len (pa_cons (pv 1) pa_nil)) pa_nil)) (pg_name (i := 2) sc_law_alike.nd rfl (by first | exact Or.inl rfl | exact Or.inr rfl))
 (pss_one (ps_if (pt_not (pt_truth (pe_call G_law_alikeU3 (hr.mono (by decide)) (by rfl) T.g_law_alike T.F_law_alike.kp T.b_law_alike .nil pass0 (pa_cons (pe_ix ix_seq (pv 0) (pv 2) (fun _ _ => rfl)) (pa_cons (pe_ix ix_seq (pv 1) (pv 2) (fun _ _ => rfl)) pa_nil))) (fun _ => rfl)))
 (pss_one (ps_ret pe_bl))
 pss_nil)))
 (pss_one (ps_ret pe_bl)))))), ?_⟩
  exact ((sr_seq (sr_if (tr_tru (er_n rc_isi (ar_cons (er_var 1) (ar_cons er_ty ar_nil))))
 (sr_ret (er_and (er_n rc_isi (ar_cons (er_var 0) (ar_cons er_ty ar_nil))) (er_2 rr_eq (er_var 0) (er_var 1))))
 sr_next)
 (sr_seq (sr_if (tr_not (tr_tru (er_n rc_isi (ar_cons (er_var 1) (ar_cons er_ty ar_nil)))))
 (sr_ret (er_and (er_call (ar_cons (er_var 0) ar_nil)) (er_2 rr_eq (er_var 0) (er_var 1))))
 sr_next)
 (sr_seq (sr_if (tr_or (tr_not (tr_tru (er_n rc_isi (ar_cons (er_var 0) (ar_cons er_ty ar_nil))))) (tr_test (er_2 rr_ne (er_n rc_len (ar_cons (er_var 0) ar_nil)) (er_n rc_len (ar_cons (er_var 1) ar_nil)))))
 (sr_ret er_bl)
 sr_next)
 (sr_seq (sr_for (ir_rng1 (ar_cons (er_n rc_len (ar_cons (er_var 1) ar_nil)) ar_nil)) (gr'_name 2)
 (sr_if (tr_not (tr_tru (er_call (ar_cons (er_2 rr_ix (er_var 0) (er_var 2)) (ar_cons (er_2 rr_ix (er_var 1) (er_var 2)) ar_nil)))))
 (sr_ret er_bl)
 sr_next))
 (sr_ret er_bl))))) : SR K _ (t_law_alikeU4))
theorem ok_law_alike (T : Txt K mg) : FnOk P w K mg base CX0 7 T.f_law_alike T.fd_law_alike ["actual", "due"] (spG K 2 (g_law_alike)) := by
  have G_law_is_integer := ok_law_is_integer (P := P) (w := w) (base := base) T
  have G_law_alikeU4 := ok_law_alikeU4 (P := P) (w := w) (base := base) T
  refine fnG (m := 1) T.F_law_alike sc_law_alike rfl rfl (fun cdv A outer s H E hr => ?_)
  have hu := hr.units
  refine ⟨_, (pss_cons (ps_if (pt_truth (pe_callB call_isi (by rfl) T.m_isinstance bt_isinstance (pa_cons (pv 1) (pa_cons (pe_bltn (v := .ty "str") (by rfl) T.m_str bt_str rfl) pa_nil))) (fun _ => rfl))
 (pss_one (ps_ret (pe_and (pe_callB call_isi (by rfl) T.m_isinstance bt_isinstance (pa_cons (pv 0) (pa_cons (pe_bltn (v := .ty "str") (by rfl) T.m_str bt_str rfl) pa_nil))) (pe_one (pe_cmpR (op_eqD hu) (pv 0) (pv 1) (nomark _))))))
 pss_nil)
 (pss_cons (ps_if (pt_not (pt_truth (pe_callB call_isi (by rfl) T.m_isinstance bt_isinstance (pa_cons (pv 1) (pa_cons (pe_bltn (v := .ty "tuple") (by rfl) T.m_tuple bt_tuple rfl) pa_nil))) (fun _ => rfl)))
 (pss_one (ps_ret (pe_and (pe_call G_law_is_integer (hr.mono (by decide)) (by rfl) T.g_law_is_integer T.F_law_is_integer.kp T.b_law_is_integer .nil pass0 (pa_cons (pv 0) pa_nil)) (pe_one (pe_cmpR (op_eqD hu) (pv 0) (pv 1) (nomark _))))))
 pss_nil)
 (pss_cons (ps_if ((pw_or (pt_not (pt_truth (pe_callB call_isi (by rfl) T.m_isinstance bt_isinstance (pa_cons (pv 0) (pa_cons (pe_bltn (v := .ty "tuple") (by rfl) T.m_tuple bt_tuple rfl) pa_nil))) (fun _ => rfl))) (pw_or1 (pt_cmpR (op_neD hu) (pe_callB call_lenA (by rfl) T.m_len bt_len (pa_cons (pv 0) pa_nil)) (pe_callB call_lenA (by rfl) T.m_len bt_len (pa_cons (pv 1) pa_nil)) (nomark _))))).pt
 (pss_one (ps_ret pe_bl))
 pss_nil)
 (pss_cons (ps_for PassesOwn.never rfl (pi_range1 (by rfl) T.m_range (pa_cons (pe_callB call_lenA (by rfl) T.m_len bt_len (pa_cons (pv 1) pa_nil)) pa_nil)) (pg_name (i := 2) sc_law_alike.nd rfl (by first | exact Or.inl rfl | exact Or.inr rfl))
 (pss_one (ps_if (pt_not (pt_truth (pe_call G_law_alikeU4 (hr.mono (by decide)) (by rfl) T.g_law_alike T.F_law_alike.kp T.b_law_alike .nil pass0 (pa_cons (pe_ix ix_seq (pv 0) (pv 2) (fun _ _ => rfl)) (pa_cons (pe_ix ix_seq (pv 1) (pv 2) (fun _ _ => rfl)) pa_nil))) (fun _ => rfl)))
 (pss_one (ps_ret pe_bl))
 pss_nil)))
 (pss_one (ps_ret pe_bl)))))), ?_⟩
  exact ((sr_seq (sr_if (tr_tru (er_n rc_isi (ar_cons (er_var 1) (ar_cons er_ty ar_nil))))
 (sr_ret (er_and (er_n rc_isi (ar_cons (er_var 0) (ar_cons er_ty ar_nil))) (er_2 rr_eq (er_var 0) (er_var 1))))
 sr_next)
 (sr_seq (sr_if (tr_not (tr_tru (er_n rc_isi (ar_cons (er_var 1) (ar_cons er_ty ar_nil)))))
 (sr_ret (er_and (er_call (ar_cons (er_var 0) ar_nil)) (er_2 rr_eq (er_var 0) (er_var 1))))
 sr_next)
 (sr_seq (sr_if (tr_or (tr_not (tr_tru (er_n rc_isi (ar_cons (er_var 0) (ar_cons er_ty ar_nil))))) (tr_test (er_2 rr_ne (er_n rc_len (ar_cons (er_var 0) ar_nil)) (er_n rc_len (ar_cons (er_var 1) ar_nil)))))
 (sr_ret er_bl)
 sr_next)
 (sr_seq (sr_for (ir_rng1 (ar_cons (er_n rc_len (ar_cons (er_var 1) ar_nil)) ar_nil)) (gr'_name 2)
 (sr_if (tr_not (tr_tru (er_call (ar_cons (er_2 rr_ix (er_var 0) (er_var 2)) (ar_cons (er_2 rr_ix (er_var 1) (er_var 2)) ar_nil)))))
 (sr_ret er_bl)
 sr_next))
 (sr_ret er_bl))))) : SR K _ (t_law_alike))
theorem sc_law_join : FnScope N_law_join ["numbers"] (defScope s_law_join) := ⟨rfl, rfl, rfl, by decide +kernel, rfl, by decide +kernel, by decide +kernel⟩
theorem ok_law_join (T : Txt K mg) : FnOk P w K mg base CX0 1 T.f_law_join T.fd_law_join ["numbers"] (spG K 1 (g_law_join)) := by
  refine fnG (m := 1) T.F_law_join sc_law_join rfl rfl (fun cdv A outer s H E hr => ?_)
  have hu := hr.units
  refine ⟨_, (pss_one (ps_ret (pe_m1 PySem.F.slot_str_join PySem.F.type_str_join mt_join pe_str (pe_lc (own := [("number", 1)]) (g := (gName 1)) (tt := tYes) (te := (tCB Zj.rStrI (tCons (tVar 1) tNil))) rfl sc_law_join.nd (pi_seq (pv 0)) (blkOk_by (N := N_law_join) (sc := defScope s_law_join) (by decide +kernel)) (fun _ _ _ _ _ => (pg_name (i := 1) sc_law_join.nd rfl (by first | exact Or.inl rfl | exact Or.inr rfl))) (fun _ _ _ _ _ => pts_nil) (fun _ _ _ _ _ => (pe_callTy call_str_int (by rfl) T.m_str bt_str (pa_cons (pv 1) pa_nil))))))), ?_⟩
  exact ((sr_ret (Zj.er_m1 Zj.rm_join er_str (er_of_eo (eo_lc (vs := [1]) (ir_seq (er_var 0)) (grc_name (j := 1) (by decide)) tr_yes (er_n Zj.rc_str (ar_cons (er_var 1) ar_nil)))))) : SR K _ (t_law_join))
theorem sc_law_text_of : FnScope N_law_text_of ["record"] (defScope s_law_text_of) := ⟨rfl, rfl, rfl, by decide +kernel, rfl, by decide +kernel, by decide +kernel⟩
theorem ok_law_text_of (T : Txt K mg) : FnOk P w K mg base CX0 2 T.f_law_text_of T.fd_law_text_of ["record"] (spG K 1 (g_law_text_of)) := by
  have G_law_join := ok_law_join (P := P) (w := w) (base := base) T
  refine fnG (m := 3) T.F_law_text_of sc_law_text_of rfl rfl (fun cdv A outer s H E hr => ?_)
  have hu := hr.units
  refine ⟨_, (pss_cons (ps_if (pt_cmpR (op_eqD hu) (pe_ix ix_seq (pv 0) pe_int (fun _ _ => rfl)) pe_str (nomark _))
 (pss_one (ps_ret (pe_op op_addA (pe_op op_addA pe_str (pe_ix ix_seq (pv 0) pe_int (fun _ _ => rfl))) pe_str)))
 pss_nil)
 (pss_cons (ps_set (i := 1) sc_law_text_of.nd rfl (by first | exact Or.inl rfl | exact Or.inr rfl) (pe_lst (pa_cons (pe_ix ix_seq (pv 0) pe_int (fun _ _ => rfl)) pa_nil)))
 (pss_cons (ps_if (pt_cmpR (op_eqD hu) (pe_ix ix_seq (pv 0) pe_int (fun _ _ => rfl)) pe_str (nomark _))
 (pss_one (ps_set (i := 1) sc_law_text_of.nd rfl (by first | exact Or.inl rfl | exact Or.inr rfl) (pe_op op_addA (pe_op op_addA (pv 1) (pe_lst (pa_cons (pe_call G_law_join (hr.mono (by decide)) (by rfl) T.g_law_join T.F_law_join.kp T.b_law_join .nil pass0 (pa_cons (pe_ix ix_seq (pv 0) pe_int (fun _ _ => rfl)) pa_nil)) pa_nil))) (pe_lc (own := [("named", 3)]) (g := (gName 3)) (tt := tYes) (te := (tOp _ (tOp _ (tOp (rIx K) (tVar 3) (tC (.int 0))) (tC (.str "="))) (tCall (spG K 1 (g_law_join)) [] E0 (tCons (tOp (rIx K) (tVar 3) (tC (.int 1))) tNil)))) rfl sc_law_text_of.nd (pi_seq (pe_ix ix_seq (pv 0) pe_int (fun _ _ => rfl))) (blkOk_by (N := N_law_text_of) (sc := defScope s_law_text_of) (by decide +kernel)) (fun _ _ _ _ _ => (pg_name (i := 3) sc_law_text_of.nd rfl (by first | exact Or.inl rfl | exact Or.inr rfl))) (fun _ _ _ _ _ => pts_nil) (fun _ _ _ _ _ => (pe_op op_addA (pe_op op_addA (pe_ix ix_seq (pv 3) pe_int (fun _ _ => rfl)) pe_str) (pe_call G_law_join (hr.mono (by decide)) (by rfl) T.g_law_join T.F_law_join.kp T.b_law_join .nil pass0 (pa_cons (pe_ix ix_seq (pv 3) pe_int (fun _ _ => rfl)) pa_nil))))))))
 pss_nil)
 (pss_cons (ps_if (pt_cmpR (op_eqD hu) (pe_ix ix_seq (pv 0) pe_int (fun _ _ => rfl)) pe_str (nomark _))
 (pss_one (ps_expr (pe_bm PySem.F.plainAttrs_list PySem.F.slot_list_append PySem.F.type_list_append mt_append (pv 1) (pa_cons (pe_op op_addA (pe_op op_addA (pe_ix ix_seq (pv 0) pe_int (fun _ _ => rfl)) pe_str) (pe_call G_law_join (hr.mono (by decide)) (by rfl) T.g_law_join T.F_law_join.kp T.b_law_join .nil pass0 (pa_cons (pe_ix ix_seq (pv 0) pe_int (fun _ _ => rfl)) pa_nil))) pa_nil))))
 pss_nil)
 (pss_cons (ps_if (pt_cmpR (op_eqD hu) (pe_ix ix_seq (pv 0) pe_int (fun _ _ => rfl)) pe_str (nomark _))
 (pss_one (ps_set (i := 1) sc_law_text_of.nd rfl (by first | exact Or.inl rfl | exact Or.inr rfl) (pe_op op_addA (pv 1) (pe_lst (pa_cons (pe_callTy call_str_int (by rfl) T.m_str bt_str (pa_cons (pe_ix ix_seq (pv 0) pe_int (fun _ _ => rfl)) pa_nil)) (pa_cons (pe_callTy call_str_int (by rfl) T.m_str bt_str (pa_cons (pe_ix ix_seq (pv 0) pe_int (fun _ _ => rfl)) pa_nil)) pa_nil))))))
 pss_nil)
 (pss_cons (ps_expr (pe_bm PySem.F.plainAttrs_list PySem.F.slot_list_append PySem.F.type_list_append mt_append (pv 1) (pa_cons pe_str pa_nil)))
 (pss_cons (ps_for PassesOwn.never rfl (pi_seq (pe_ix ix_seq (pv 0) (pe_un un_neg pe_int) (fun _ _ => rfl))) (pg_name (i := 2) sc_law_text_of.nd rfl (by first | exact Or.inl rfl | exact Or.inr rfl))
 (pss_one (ps_expr (pe_bm PySem.F.plainAttrs_list PySem.F.slot_list_append PySem.F.type_list_append mt_append (pv 1) (pa_cons (pe_op op_addA (pe_op op_addA (pe_op op_addA (pe_op op_addA (pe_callTy call_str_int (by rfl) T.m_str bt_str (pa_cons (pe_ix ix_seq (pv 2) pe_int (fun _ _ => rfl)) pa_nil)) pe_str) (pe_callTy call_str_int (by rfl) T.m_str bt_str (pa_cons (pe_ix ix_seq (pv 2) pe_int (fun _ _ => rfl)) pa_nil))) pe_str) (pe_callTy call_str_int (by rfl) T.m_str bt_str (pa_cons (pe_ix ix_seq (pv 2) pe_int (fun _ _ => rfl)) pa_nil))) pa_nil)))))
 (pss_one (ps_ret (pe_op op_addA (pe_m1 PySem.F.slot_str_join PySem.F.type_str_join mt_join pe_str (pv 1)) pe_str)))))))))), ?_⟩
  exact ((sr_seq (sr_if (tr_test (er_2 rr_eq (er_2 rr_ix (er_var 0) er_int) er_str))
 (sr_ret (er_2 rr_add (er_2 rr_add er_str (er_2 rr_ix (er_var 0) er_int)) er_str))
 sr_next)
 (sr_seq (sr_asgO (eo_lst (ar_cons (er_2 rr_ix (er_var 0) er_int) ar_nil)))
 (sr_seq (sr_if (tr_test (er_2 rr_eq (er_2 rr_ix (er_var 0) er_int) er_str))
 (sr_asgO (Zra.eo_addL (Zq7.er_addO 1 (er_lst (ar_cons (er_call (ar_cons (er_2 rr_ix (er_var 0) er_int) ar_nil)) ar_nil))) (er_of_eo (eo_lc (vs := [3]) (ir_seq (er_2 rr_ix (er_var 0) er_int)) (grc_name (j := 3) (by decide)) tr_yes (er_2 rr_add (er_2 rr_add (er_2 rr_ix (er_var 3) er_int) er_str) (er_call (ar_cons (er_2 rr_ix (er_var 3) er_int) ar_nil)))))))
 sr_next)
 (sr_seq (sr_if (tr_test (er_2 rr_eq (er_2 rr_ix (er_var 0) er_int) er_str))
 (sr_app (i := 1) (er_2 rr_add (er_2 rr_add (er_2 rr_ix (er_var 0) er_int) er_str) (er_call (ar_cons (er_2 rr_ix (er_var 0) er_int) ar_nil))))
 sr_next)
 (sr_seq (sr_if (tr_test (er_2 rr_eq (er_2 rr_ix (er_var 0) er_int) er_str))
 (sr_asgO (Zra.eo_addO 1 (er_lst (ar_cons (er_n Zj.rc_str (ar_cons (er_2 rr_ix (er_var 0) er_int) ar_nil)) (ar_cons (er_n Zj.rc_str (ar_cons (er_2 rr_ix (er_var 0) er_int) ar_nil)) ar_nil)))))
 sr_next)
 (sr_seq (sr_app (i := 1) er_str)
 (sr_seq (sr_for (ir_seq (er_2 rr_ix (er_var 0) (er_1 ru_neg er_int))) (gr'_name 2)
 (sr_app (i := 1) (er_2 rr_add (er_2 rr_add (er_2 rr_add (er_2 rr_add (er_n Zj.rc_str (ar_cons (er_2 rr_ix (er_var 2) er_int) ar_nil)) er_str) (er_n Zj.rc_str (ar_cons (er_2 rr_ix (er_var 2) er_int) ar_nil))) er_str) (er_n Zj.rc_str (ar_cons (er_2 rr_ix (er_var 2) er_int) ar_nil)))))
 (sr_frz [1] (sr_ret (er_2 rr_add (Zj.er_m1 Zj.rm_join er_str (er_var 1)) er_str)))))))))) : SR K _ (t_law_text_of))
theorem sc_law_sizes : FnScope N_law_sizes [] (defScope s_law_sizes) := ⟨rfl, rfl, rfl, by decide +kernel, rfl, by decide +kernel, by decide +kernel⟩
theorem ok_law_sizes (T : Txt K mg) : FnOk P w K mg base CX0 1 T.f_law_sizes T.fd_law_sizes [] (spG K 0 (g_law_sizes)) := by
  refine fnG (m := 0) T.F_law_sizes sc_law_sizes rfl rfl (fun cdv A outer s H E hr => ?_)
  have hu := hr.units
  refine ⟨_, (pss_one (ps_ret (pe_lst (pa_cons pe_int (pa_cons pe_int (pa_cons pe_int (pa_cons pe_int (pa_cons pe_int (pa_cons pe_int (pa_cons pe_int (pa_cons pe_int (pa_cons pe_int (pa_cons pe_int (pa_cons pe_int (pa_cons pe_int (pa_cons pe_int (pa_cons pe_int (pa_cons pe_int pa_nil)))))))))))))))))), ?_⟩
  exact ((sr_retO (eo_lst (ar_cons er_int (ar_cons er_int (ar_cons er_int (ar_cons er_int (ar_cons er_int (ar_cons er_int (ar_cons er_int (ar_cons er_int (ar_cons er_int (ar_cons er_int (ar_cons er_int (ar_cons er_int (ar_cons er_int (ar_cons er_int (ar_cons er_int ar_nil))))))))))))))))) : SR K _ (t_law_sizes))
theorem sc_law_small : FnScope N_law_small ["row", "k", "is_picture", "names"] (defScope s_law_small) := ⟨rfl, rfl, rfl, by decide +kernel, rfl, by decide +kernel, by decide +kernel⟩
theorem ok_law_small (T : Txt K mg) : FnOk P w K mg base CX0 1 T.f_law_small T.fd_law_small ["row", "k", "is_picture", "names"] (spG K 4 (g_law_small)) := by
  refine fnG (m := 9) T.F_law_small sc_law_small rfl rfl (fun cdv A outer s H E hr => ?_)
  have hu := hr.units
  refine ⟨_, (pss_cons (ps_set (i := 4) sc_law_small.nd rfl (by first | exact Or.inl rfl | exact Or.inr rfl) (pe_callTy call_tuple_of (by rfl) T.m_tuple bt_tuple (pa_cons (pe_lc (own := [("step", 7)]) (g := (gName 7)) (tt := tYes) (te := (tOp _ (tOp _ (tC (.int 1)) (tOp (rIx K) (tVar 0) (tOp _ (tVar 1) (tC (.int 5))))) (tOp _ (tVar 7) (tOp _ (tOp (rIx K) (tVar 0) (tOp _ (tVar 1) (tC (.int 6)))) (tC (.int 1)))))) rfl sc_law_small.nd (pi_range1 (by rfl) T.m_range (pa_cons (pe_ix ix_seq (pv 0) (pe_op op_addA (pv 1) pe_int) (fun _ _ => rfl)) pa_nil)) (blkOk_by (N := N_law_small) (sc := defScope s_law_small) (by decide +kernel)) (fun _ _ _ _ _ => (pg_name (i := 7) sc_law_small.nd rfl (by first | exact Or.inl rfl | exact Or.inr rfl))) (fun _ _ _ _ _ => pts_nil) (fun _ _ _ _ _ => (pe_op op_addA (pe_op op_addA pe_int (pe_ix ix_seq (pv 0) (pe_op op_addA (pv 1) pe_int) (fun _ _ => rfl))) (pe_op op_mulA (pv 7) (pe_op op_addA (pe_ix ix_seq (pv 0) (pe_op op_addA (pv 1) pe_int) (fun _ _ => rfl)) pe_int))))) pa_nil)))
 (pss_cons (ps_set (i := 5) sc_law_small.nd rfl (by first | exact Or.inl rfl | exact Or.inr rfl) (pe_callTy call_tuple_of (by rfl) T.m_tuple bt_tuple (pa_cons (pe_lc (own := [("step", 7)]) (g := (gName 7)) (tt := tYes) (te := (tOp _ (tOp _ (tC (.int 2)) (tOp (rIx K) (tVar 0) (tOp _ (tVar 1) (tC (.int 6))))) (tOp _ (tC (.int 3)) (tVar 7)))) rfl sc_law_small.nd (pi_range1 (by rfl) T.m_range (pa_cons (pe_ix ix_seq (pv 0) (pe_op op_addA (pv 1) pe_int) (fun _ _ => rfl)) pa_nil)) (blkOk_by (N := N_law_small) (sc := defScope s_law_small) (by decide +kernel)) (fun _ _ _ _ _ => (pg_name (i := 7) sc_law_small.nd rfl (by first | exact Or.inl rfl | exact Or.inr rfl))) (fun _ _ _ _ _ => pts_nil) (fun _ _ _ _ _ => (pe_op op_addA (pe_op op_addA pe_int (pe_ix ix_seq (pv 0) (pe_op op_addA (pv 1) pe_int) (fun _ _ => rfl))) (pe_op op_mulA pe_int (pv 7))))) pa_nil)))
 (pss_cons (ps_set (i := 6) sc_law_small.nd rfl (by first | exact Or.inl rfl | exact Or.inr rfl) (pe_lst pa_nil))
 (pss_cons (ps_for PassesOwn.never rfl (pi_range1 (by rfl) T.m_range (pa_cons (pe_ix ix_seq (pv 0) (pe_op op_addA (pv 1) pe_int) (fun _ _ => rfl)) pa_nil)) (pg_name (i := 7) sc_law_small.nd rfl (by first | exact Or.inl rfl | exact Or.inr rfl))
 (pss_cons (ps_set (i := 8) sc_law_small.nd rfl (by first | exact Or.inl rfl | exact Or.inr rfl) (pe_ix ix_seq (pv 0) (pe_op op_addA (pe_op op_addA (pv 1) pe_int) (pe_op op_mulA pe_int (pv 7))) (fun _ _ => rfl)))
 (pss_one (ps_expr (pe_bm PySem.F.plainAttrs_list PySem.F.slot_list_append PySem.F.type_list_append mt_append (pv 6) (pa_cons (pe_tup (pa_cons (pe_op op_addA (pe_op op_addA pe_int (pe_ix ix_seq (pv 0) (pe_op op_addA (pv 1) pe_int) (fun _ _ => rfl))) (pe_op op_mulA (pv 7) (pe_op op_addA (pe_ix ix_seq (pv 0) (pe_op op_addA (pv 1) pe_int) (fun _ _ => rfl)) pe_int))) (pa_cons (pv 8) (pa_cons (pe_op op_addA (pe_op op_addA (pv 8) pe_int) (pe_ix ix_seq (pv 0) (pe_op op_addA (pe_op op_addA (pv 1) pe_int) (pe_op op_mulA pe_int (pv 7))) (fun _ _ => rfl))) pa_nil)))) pa_nil))))))
 (pss_cons (ps_set (i := 9) sc_law_small.nd rfl (by first | exact Or.inl rfl | exact Or.inr rfl) (pe_ix ix_seq (pv 3) (pe_ix ix_seq (pv 0) (pe_op op_addA (pv 1) pe_int) (fun _ _ => rfl)) (fun _ _ => rfl)))
 (pss_cons (ps_set (i := 10) sc_law_small.nd rfl (by first | exact Or.inl rfl | exact Or.inr rfl) (pe_ix ix_seq (pv 3) (pe_ix ix_seq (pv 0) (pe_op op_addA (pv 1) pe_int) (fun _ _ => rfl)) (fun _ _ => rfl)))
 (pss_cons (ps_if (pt_truth (pv 2) (fun _ => rfl))
 (pss_cons (ps_set (i := 11) sc_law_small.nd rfl (by first | exact Or.inl rfl | exact Or.inr rfl) (pe_callTy call_tuple_of (by rfl) T.m_tuple bt_tuple (pa_cons (pe_lc (own := [("step", 7)]) (g := (gName 7)) (tt := tYes) (te := (tOp _ (tCB _ (tCons (tOp _ (tOp (rIx K) (tVar 0) (tOp _ (tVar 1) (tC (.int 14)))) (tOp _ (tC (.int 13)) (tVar 7))) tNil)) (tC (.int 41)))) rfl sc_law_small.nd (pi_range1 (by rfl) T.m_range (pa_cons (pe_op op_addA (pe_ix ix_seq (pv 0) (pe_op op_addA (pv 1) pe_int) (fun _ _ => rfl)) pe_int) pa_nil)) (blkOk_by (N := N_law_small) (sc := defScope s_law_small) (by decide +kernel)) (fun _ _ _ _ _ => (pg_name (i := 7) sc_law_small.nd rfl (by first | exact Or.inl rfl | exact Or.inr rfl))) (fun _ _ _ _ _ => pts_nil) (fun _ _ _ _ _ => (pe_op op_mod (pe_callTy call_int1 (by rfl) T.m_int bt_int (pa_cons (pe_op op_addA (pe_ix ix_seq (pv 0) (pe_op op_addA (pv 1) pe_int) (fun _ _ => rfl)) (pe_op op_mulA pe_int (pv 7))) pa_nil)) pe_int))) pa_nil)))
 (pss_cons (ps_set (i := 12) sc_law_small.nd rfl (by first | exact Or.inl rfl | exact Or.inr rfl) (pe_lst pa_nil))
 (pss_cons (ps_if (pt_cmpR op_gt (pe_ix ix_seq (pv 0) (pe_op op_addA (pv 1) pe_int) (fun _ _ => rfl)) pe_int (nomark _))
 (pss_one (ps_set (i := 12) sc_law_small.nd rfl (by first | exact Or.inl rfl | exact Or.inr rfl) (pe_lst (pa_cons (pe_tup (pa_cons (pv 9) (pa_cons (pv 4) pa_nil))) pa_nil))))
 pss_nil)
 (pss_cons (ps_if ((pw_and (pt_cmpR op_gt (pe_ix ix_seq (pv 0) (pe_op op_addA (pv 1) pe_int) (fun _ _ => rfl)) pe_int (nomark _)) (pw_and1 (pt_cmpR (op_neD hu) (pv 9) (pv 10) (nomark _))))).pt
 (pss_one (ps_set (i := 12) sc_law_small.nd rfl (by first | exact Or.inl rfl | exact Or.inr rfl) (pe_callB (Zrb.cr_sortDat hu) (by rfl) T.m_sorted bt_sorted (pa_cons (pe_lst (pa_cons (pe_tup (pa_cons (pv 9) (pa_cons (pv 4) pa_nil))) (pa_cons (pe_tup (pa_cons (pv 10) (pa_cons (pv 5) pa_nil))) pa_nil))) pa_nil))))
 pss_nil)
 (pss_one (ps_ret (pe_tup (pa_cons pe_str (pa_cons (pv 11) (pa_cons (pe_callTy call_tuple_of (by rfl) T.m_tuple bt_tuple (pa_cons (pv 12) pa_nil)) (pa_cons (pe_callTy call_tuple_of (by rfl) T.m_tuple bt_tuple (pa_cons (pv 6) pa_nil)) pa_nil)))))))))))
 pss_nil)
 (pss_cons (ps_if (pt_cmpR op_lt (pe_ix ix_seq (pv 0) (pv 1) (fun _ _ => rfl)) pe_int (nomark _))
 (pss_one (ps_ret (pe_tup (pa_cons pe_str (pa_cons (pv 9) (pa_cons (pv 4) (pa_cons (pe_callTy call_tuple_of (by rfl) T.m_tuple bt_tuple (pa_cons (pv 6) pa_nil)) pa_nil)))))))
 pss_nil)
 (pss_cons (ps_if (pt_cmpR (op_eqD hu) (pe_ix ix_seq (pv 0) (pv 1) (fun _ _ => rfl)) pe_int (nomark _))
 (pss_one (ps_ret (pe_tup (pa_cons pe_str (pa_cons (pv 9) pa_nil)))))
 pss_nil)
 (pss_cons (ps_if (pt_cmpR (op_eqD hu) (pe_ix ix_seq (pv 0) (pv 1) (fun _ _ => rfl)) pe_int (nomark _))
 (pss_one (ps_ret (pe_tup (pa_cons pe_str (pa_cons (pe_callTy call_tuple_of (by rfl) T.m_tuple bt_tuple (pa_cons (pv 6) pa_nil)) pa_nil)))))
 pss_nil)
 (pss_one (ps_ret (pe_tup (pa_cons pe_str (pa_cons (pe_ix ix_seq (pv 0) (pe_op op_addA (pv 1) pe_int) (fun _ _ => rfl)) (pa_cons (pe_ix ix_seq (pv 0) (pe_op op_addA (pv 1) pe_int) (fun _ _ => rfl)) (pa_cons (pe_callTy call_tuple_of (by rfl) T.m_tuple bt_tuple (pa_cons (pv 6) pa_nil)) pa_nil))))))))))))))))), ?_⟩
  exact ((sr_seq (sr_asg (er_n rc_tuple (ar_cons (er_of_eo (eo_lc (vs := [7]) (ir_rng1 (ar_cons (er_2 rr_ix (er_var 0) (er_2 rr_add (er_var 1) er_int)) ar_nil)) (grc_name (j := 7) (by decide)) tr_yes (er_2 rr_add (er_2 rr_add er_int (er_2 rr_ix (er_var 0) (er_2 rr_add (er_var 1) er_int))) (er_2 rr_mul (er_var 7) (er_2 rr_add (er_2 rr_ix (er_var 0) (er_2 rr_add (er_var 1) er_int)) er_int))))) ar_nil)) (gr'_name 4))
 (sr_seq (sr_asg (er_n rc_tuple (ar_cons (er_of_eo (eo_lc (vs := [7]) (ir_rng1 (ar_cons (er_2 rr_ix (er_var 0) (er_2 rr_add (er_var 1) er_int)) ar_nil)) (grc_name (j := 7) (by decide)) tr_yes (er_2 rr_add (er_2 rr_add er_int (er_2 rr_ix (er_var 0) (er_2 rr_add (er_var 1) er_int))) (er_2 rr_mul er_int (er_var 7))))) ar_nil)) (gr'_name 5))
 (sr_seq (sr_asgO (eo_lst ar_nil))
 (sr_seq (sr_for (ir_rng1 (ar_cons (er_2 rr_ix (er_var 0) (er_2 rr_add (er_var 1) er_int)) ar_nil)) (gr'_name 7)
 (sr_seq (sr_asg (er_2 rr_ix (er_var 0) (er_2 rr_add (er_2 rr_add (er_var 1) er_int) (er_2 rr_mul er_int (er_var 7)))) (gr'_name 8))
 (sr_app (i := 6) (er_tup (ar_cons (er_2 rr_add (er_2 rr_add er_int (er_2 rr_ix (er_var 0) (er_2 rr_add (er_var 1) er_int))) (er_2 rr_mul (er_var 7) (er_2 rr_add (er_2 rr_ix (er_var 0) (er_2 rr_add (er_var 1) er_int)) er_int))) (ar_cons (er_var 8) (ar_cons (er_2 rr_add (er_2 rr_add (er_var 8) er_int) (er_2 rr_ix (er_var 0) (er_2 rr_add (er_2 rr_add (er_var 1) er_int) (er_2 rr_mul er_int (er_var 7))))) ar_nil)))))))
 (sr_seq (sr_asg (er_2 rr_ix (er_var 3) (er_2 rr_ix (er_var 0) (er_2 rr_add (er_var 1) er_int))) (gr'_name 9))
 (sr_seq (sr_asg (er_2 rr_ix (er_var 3) (er_2 rr_ix (er_var 0) (er_2 rr_add (er_var 1) er_int))) (gr'_name 10))
 (sr_seq (sr_if (tr_tru (er_var 2))
 (sr_seq (sr_asg (er_n rc_tuple (ar_cons (er_of_eo (eo_lc (vs := [7]) (ir_rng1 (ar_cons (er_2 rr_add (er_2 rr_ix (er_var 0) (er_2 rr_add (er_var 1) er_int)) er_int) ar_nil)) (grc_name (j := 7) (by decide)) tr_yes (er_2 rr_mod (er_n rc_int (ar_cons (er_2 rr_add (er_2 rr_ix (er_var 0) (er_2 rr_add (er_var 1) er_int)) (er_2 rr_mul er_int (er_var 7))) ar_nil)) er_int))) ar_nil)) (gr'_name 11))
 (sr_seq (sr_asg (er_lst ar_nil) (gr'_name 12))
 (sr_seq (sr_if (tr_test (er_2 rr_gt (er_2 rr_ix (er_var 0) (er_2 rr_add (er_var 1) er_int)) er_int))
 (sr_asg (er_lst (ar_cons (er_tup (ar_cons (er_var 9) (ar_cons (er_var 4) ar_nil))) ar_nil)) (gr'_name 12))
 sr_next)
 (sr_seq (sr_if (tr_and (tr_test (er_2 rr_gt (er_2 rr_ix (er_var 0) (er_2 rr_add (er_var 1) er_int)) er_int)) (tr_test (er_2 rr_ne (er_var 9) (er_var 10))))
 (sr_asg (er_n Zrb.rc_sortDat (ar_cons (er_lst (ar_cons (er_tup (ar_cons (er_var 9) (ar_cons (er_var 4) ar_nil))) (ar_cons (er_tup (ar_cons (er_var 10) (ar_cons (er_var 5) ar_nil))) ar_nil))) ar_nil)) (gr'_name 12))
 sr_next)
 (sr_frz [6] (sr_ret (er_tup (ar_cons er_str (ar_cons (er_var 11) (ar_cons (er_n rc_tuple (ar_cons (er_var 12) ar_nil)) (ar_cons (er_n rc_tuple (ar_cons (er_var 6) ar_nil)) ar_nil)))))))))))
 sr_next)
 (sr_seq (sr_if (tr_test (er_2 rr_lt (er_2 rr_ix (er_var 0) (er_var 1)) er_int))
 (sr_frz [6] (sr_ret (er_tup (ar_cons er_str (ar_cons (er_var 9) (ar_cons (er_var 4) (ar_cons (er_n rc_tuple (ar_cons (er_var 6) ar_nil)) ar_nil)))))))
 sr_next)
 (sr_seq (sr_if (tr_test (er_2 rr_eq (er_2 rr_ix (er_var 0) (er_var 1)) er_int))
 (sr_ret (er_tup (ar_cons er_str (ar_cons (er_var 9) ar_nil))))
 sr_next)
 (sr_seq (sr_if (tr_test (er_2 rr_eq (er_2 rr_ix (er_var 0) (er_var 1)) er_int))
 (sr_frz [6] (sr_ret (er_tup (ar_cons er_str (ar_cons (er_n rc_tuple (ar_cons (er_var 6) ar_nil)) ar_nil)))))
 sr_next)
 (sr_frz [6] (sr_ret (er_tup (ar_cons er_str (ar_cons (er_2 rr_ix (er_var 0) (er_2 rr_add (er_var 1) er_int)) (ar_cons (er_2 rr_ix (er_var 0) (er_2 rr_add (er_var 1) er_int)) (ar_cons (er_n rc_tuple (ar_cons (er_var 6) ar_nil)) ar_nil))))))))))))))))) : SR K _ (t_law_small))
theorem sc_law_other : FnScope N_law_other ["number"] (defScope s_law_other) := ⟨rfl, rfl, rfl, by decide +kernel, rfl, by decide +kernel, by decide +kernel⟩
theorem ok_law_other (T : Txt K mg) : FnOk P w K mg base CX0 1 T.f_law_other T.fd_law_other ["number"] (spG K 1 (g_law_other)) := by
  refine fnG (m := 1) T.F_law_other sc_law_other rfl rfl (fun cdv A outer s H E hr => ?_)
  have hu := hr.units
  refine ⟨_, (pss_cons (ps_set (i := 1) sc_law_other.nd rfl (by first | exact Or.inl rfl | exact Or.inr rfl) (pe_lst (pa_cons pe_str (pa_cons pe_str (pa_cons pe_str (pa_cons pe_str (pa_cons pe_str (pa_cons pe_str (pa_cons pe_str (pa_cons pe_str (pa_cons pe_str (pa_cons pe_str pa_nil))))))))))))
 (pss_cons (ps_set (i := 1) sc_law_other.nd rfl (by first | exact Or.inl rfl | exact Or.inr rfl) (pe_op op_addA (pv 1) (pe_lst (pa_cons pe_str (pa_cons pe_str (pa_cons pe_str (pa_cons pe_str (pa_cons pe_str (pa_cons pe_str pa_nil)))))))))
 (pss_one (ps_ret (pe_ix ix_seq (pv 1) (pe_op op_mod (pe_callTy call_int1 (by rfl) T.m_int bt_int (pa_cons (pv 0) pa_nil)) pe_int) (fun _ _ => rfl)))))), ?_⟩
  exact ((sr_seq (sr_asg (er_lst (ar_cons er_str (ar_cons er_str (ar_cons er_str (ar_cons er_str (ar_cons er_str (ar_cons er_str (ar_cons er_str (ar_cons er_str (ar_cons er_str (ar_cons er_str ar_nil))))))))))) (gr'_name 1))
 (sr_seq (sr_asg (er_2 rr_add (er_var 1) (er_lst (ar_cons er_str (ar_cons er_str (ar_cons er_str (ar_cons er_str (ar_cons er_str (ar_cons er_str ar_nil)))))))) (gr'_name 1))
 (sr_ret (er_2 rr_ix (er_var 1) (er_2 rr_mod (er_n rc_int (ar_cons (er_var 0) ar_nil)) er_int))))) : SR K _ (t_law_other))
theorem sc_law_string : FnScope N_law_string ["cell", "names", "before"] (defScope s_law_string) := ⟨rfl, rfl, rfl, by decide +kernel, rfl, by decide +kernel, by decide +kernel⟩
theorem ok_law_string (T : Txt K mg) : FnOk P w K mg base CX0 3 T.f_law_string T.fd_law_string ["cell", "names", "before"] (spG K 3 (g_law_string)) := by
  have G_law_sizes := ok_law_sizes (P := P) (w := w) (base := base) T
  have G_law_draws := ok_law_draws (P := P) (w := w) (base := base) T
  have G_law_small := ok_law_small (P := P) (w := w) (base := base) T
  have G_law_text_of := ok_law_text_of (P := P) (w := w) (base := base) T
  have G_law_other := ok_law_other (P := P) (w := w) (base := base) T
  have G_law_sign := ok_law_sign (P := P) (w := w) (base := base) T
  refine fnG (m := 7) T.F_law_string sc_law_string rfl rfl (fun cdv A outer s H E hr => ?_)
  have hu := hr.units
  refine ⟨_, (pss_cons (ps_set (i := 3) sc_law_string.nd rfl (by first | exact Or.inl rfl | exact Or.inr rfl) (pe_call G_law_draws (hr.mono (by decide)) (by rfl) T.g_law_draws T.F_law_draws.kp T.b_law_draws .nil pass0 (pa_cons (pv 0) (pa_cons (pe_op op_addA (pe_op op_addA (pe_lst (pa_cons pe_int (pa_cons pe_int (pa_cons pe_int (pa_cons pe_int (pa_cons pe_int pa_nil)))))) (pe_call0 G_law_sizes (hr.mono (by decide)) (by rfl) T.g_law_sizes T.F_law_sizes.kp T.b_law_sizes .nil pass0)) (pe_op op_mulA (pe_lst (pa_cons pe_int pa_nil)) pe_int)) pa_nil))))
 (pss_cons (ps_set (i := 4) sc_law_string.nd rfl (by first | exact Or.inl rfl | exact Or.inr rfl) (pe_or (pe_chain op_le op_lt pe_int (pe_ix ix_seq (pv 3) pe_int (fun _ _ => rfl)) pe_int) (pe_or (pe_and (pe_cmpR op_isN (pv 2) pe_non (nomark _)) (pe_one (pe_cmpR op_lt (pe_ix ix_seq (pv 3) pe_int (fun _ _ => rfl)) pe_int (nomark _)))) (pe_one (pe_and (pe_cmpR op_gt (pe_ix ix_seq (pv 3) pe_int (fun _ _ => rfl)) pe_int (nomark _)) (pe_one (pe_cmpR (op_eqD hu) (pe_ix ix_seq (pv 3) pe_int (fun _ _ => rfl)) pe_int (nomark _))))))))
 (pss_cons (ps_set (i := 5) sc_law_string.nd rfl (by first | exact Or.inl rfl | exact Or.inr rfl) (pe_call G_law_small (hr.mono (by decide)) (by rfl) T.g_law_small T.F_law_small.kp T.b_law_small .nil pass0 (pa_cons (pv 3) (pa_cons pe_int (pa_cons (pv 4) (pa_cons (pv 1) pa_nil))))))
 (pss_cons (ps_set (i := 6) sc_law_string.nd rfl (by first | exact Or.inl rfl | exact Or.inr rfl) (pe_call G_law_text_of (hr.mono (by decide)) (by rfl) T.g_law_text_of T.F_law_text_of.kp T.b_law_text_of .nil pass0 (pa_cons (pv 5) pa_nil)))
 (pss_cons (ps_if (pt_cmpR op_lt (pe_ix ix_seq (pv 3) pe_int (fun _ _ => rfl)) pe_int (nomark _))
 (pss_one (ps_ret (pe_tup (pa_cons (pv 6) (pa_cons (pv 5) pa_nil)))))
 pss_nil)
 (pss_cons (ps_if (pt_cmpR op_lt (pe_ix ix_seq (pv 3) pe_int (fun _ _ => rfl)) pe_int (nomark _))
 (pss_cons (ps_set (i := 7) sc_law_string.nd rfl (by first | exact Or.inl rfl | exact Or.inr rfl) pe_str)
 (pss_cons (ps_if ((pw_and (pt_cmpR (op_eqD hu) (pe_ix ix_seq (pv 3) pe_int (fun _ _ => rfl)) pe_int (nomark _)) (pw_and (pt_cmpR op_notN (pv 2) pe_non (nomark _)) (pw_and1 (pt_cmpR op_notin_str pe_str (pv 2) (by rfl)))))).pt
 (pss_one (ps_set (i := 7) sc_law_string.nd rfl (by first | exact Or.inl rfl | exact Or.inr rfl) (pv 2)))
 pss_nil)
 (pss_cons (ps_set (i := 8) sc_law_string.nd rfl (by first | exact Or.inl rfl | exact Or.inr rfl) (pe_op op_mod (pe_callTy call_int1 (by rfl) T.m_int bt_int (pa_cons (pe_ix ix_seq (pv 3) pe_int (fun _ _ => rfl)) pa_nil)) (pe_callB call_lenA (by rfl) T.m_len bt_len (pa_cons (pv 6) pa_nil))))
 (pss_one (ps_ret (pe_tup (pa_cons (pe_op op_addA (pe_slice C8.sl_txt (pv 6) po_none (po_some (pv 8))) (pe_slice C8.sl_txt (pv 7) (po_some (pv 8)) po_none)) (pa_cons pe_non pa_nil))))))))
 pss_nil)
 (pss_cons (ps_if (pt_cmpR (op_eqD hu) (pe_ix ix_seq (pv 3) pe_int (fun _ _ => rfl)) pe_int (nomark _))
 (pss_one (ps_ret (pe_tup (pa_cons pe_str (pa_cons pe_non pa_nil)))))
 pss_nil)
 (pss_cons (ps_if (pt_cmpR (op_eqD hu) (pe_ix ix_seq (pv 3) pe_int (fun _ _ => rfl)) pe_int (nomark _))
 (pss_one (ps_ret (pe_tup (pa_cons (pe_call G_law_other (hr.mono (by decide)) (by rfl) T.g_law_other T.F_law_other.kp T.b_law_other .nil pass0 (pa_cons (pe_ix ix_seq (pv 3) pe_int (fun _ _ => rfl)) pa_nil)) (pa_cons pe_non pa_nil)))))
 pss_nil)
 (pss_one (ps_ret (pe_tup (pa_cons (Zra.pe_joinRepl (pe_lc (own := [("k", 9)]) (g := (gName 9)) (tt := tYes) (te := (tCall (spG K 1 (g_law_sign)) [] E0 (tCons (tOp (rIx K) (tVar 3) (tOp _ (tC (.int 20)) (tVar 9))) tNil))) rfl sc_law_string.nd (pi_range1 (by rfl) T.m_range (pa_cons pe_int pa_nil)) (blkOk_by (N := N_law_string) (sc := defScope s_law_string) (by decide +kernel)) (fun _ _ _ _ _ => (pg_name (i := 9) sc_law_string.nd rfl (by first | exact Or.inl rfl | exact Or.inr rfl))) (fun _ _ _ _ _ => pts_nil) (fun _ _ _ _ _ => (pe_call G_law_sign (hr.mono (by decide)) (by rfl) T.g_law_sign T.F_law_sign.kp T.b_law_sign .nil pass0 (pa_cons (pe_ix ix_seq (pv 3) (pe_op op_addA pe_int (pv 9)) (fun _ _ => rfl)) pa_nil)))) (by decide)) (pa_cons pe_non pa_nil))))))))))))), ?_⟩
  exact ((sr_seq (sr_asg (er_call (ar_cons (er_var 0) (ar_cons (er_2 rr_add (er_2 rr_add (er_lst (ar_cons er_int (ar_cons er_int (ar_cons er_int (ar_cons er_int (ar_cons er_int ar_nil)))))) (er_call ar_nil)) (er_2 rr_mul (er_lst (ar_cons er_int ar_nil)) er_int)) ar_nil))) (gr'_name 3))
 (sr_seq (sr_asg (er_or (er_chain rr_le rr_lt er_int (er_2 rr_ix (er_var 3) er_int) er_int) (er_or (er_and (er_2 rr_is (er_var 2) er_non) (er_2 rr_lt (er_2 rr_ix (er_var 3) er_int) er_int)) (er_and (er_2 rr_gt (er_2 rr_ix (er_var 3) er_int) er_int) (er_2 rr_eq (er_2 rr_ix (er_var 3) er_int) er_int)))) (gr'_name 4))
 (sr_seq (sr_asg (er_call (ar_cons (er_var 3) (ar_cons er_int (ar_cons (er_var 4) (ar_cons (er_var 1) ar_nil))))) (gr'_name 5))
 (sr_seq (sr_asg (er_call (ar_cons (er_var 5) ar_nil)) (gr'_name 6))
 (sr_seq (sr_if (tr_test (er_2 rr_lt (er_2 rr_ix (er_var 3) er_int) er_int))
 (sr_ret (er_tup (ar_cons (er_var 6) (ar_cons (er_var 5) ar_nil))))
 sr_next)
 (sr_seq (sr_if (tr_test (er_2 rr_lt (er_2 rr_ix (er_var 3) er_int) er_int))
 (sr_seq (sr_asg er_str (gr'_name 7))
 (sr_seq (sr_if (tr_and (tr_test (er_2 rr_eq (er_2 rr_ix (er_var 3) er_int) er_int)) (tr_and (tr_test (er_2 rr_isnt (er_var 2) er_non)) (tr_test (er_2 Zj.rr_ninT er_str (er_var 2)))))
 (sr_asg (er_var 2) (gr'_name 7))
 sr_next)
 (sr_seq (sr_asg (er_2 rr_mod (er_n rc_int (ar_cons (er_2 rr_ix (er_var 3) er_int) ar_nil)) (er_n rc_len (ar_cons (er_var 6) ar_nil))) (gr'_name 8))
 (sr_ret (er_tup (ar_cons (er_2 rr_add (Zj.er_slS (er_var 6) or_none (or_some (er_var 8))) (Zj.er_slS (er_var 7) (or_some (er_var 8)) or_none)) (ar_cons er_non ar_nil)))))))
 sr_next)
 (sr_seq (sr_if (tr_test (er_2 rr_eq (er_2 rr_ix (er_var 3) er_int) er_int))
 (sr_ret (er_tup (ar_cons er_str (ar_cons er_non ar_nil))))
 sr_next)
 (sr_seq (sr_if (tr_test (er_2 rr_eq (er_2 rr_ix (er_var 3) er_int) er_int))
 (sr_ret (er_tup (ar_cons (er_call (ar_cons (er_2 rr_ix (er_var 3) er_int) ar_nil)) (ar_cons er_non ar_nil))))
 sr_next)
 (sr_ret (er_tup (ar_cons (Zra.er_repl (Zj.er_m1 Zj.rm_join er_str (er_of_eo (eo_lc (vs := [9]) (ir_rng1 (ar_cons er_int ar_nil)) (grc_name (j := 9) (by decide)) tr_yes (er_call (ar_cons (er_2 rr_ix (er_var 3) (er_2 rr_add er_int (er_var 9))) ar_nil)))))) (ar_cons er_non ar_nil)))))))))))) : SR K _ (t_law_string))
theorem sc_law_counted : FnScope N_law_counted ["strings"] (defScope s_law_counted) := ⟨rfl, rfl, rfl, by decide +kernel, rfl, by decide +kernel, by decide +kernel⟩
theorem ok_law_counted (T : Txt K mg) : FnOk P w K mg base CX0 1 T.f_law_counted T.fd_law_counted ["strings"] (spG K 1 (g_law_counted)) := by
  refine fnG (m := 5) T.F_law_counted sc_law_counted rfl rfl (fun cdv A outer s H E hr => ?_)
  have hu := hr.units
  refine ⟨_, (pss_cons (ps_set (i := 1) sc_law_counted.nd rfl (by first | exact Or.inl rfl | exact Or.inr rfl) (pe_lst pa_nil))
 (pss_cons (ps_set (i := 2) sc_law_counted.nd rfl (by first | exact Or.inl rfl | exact Or.inr rfl) pe_int)
 (pss_cons (ps_set (i := 3) sc_law_counted.nd rfl (by first | exact Or.inl rfl | exact Or.inr rfl) pe_bl)
 (pss_cons (ps_for PassesOwn.never rfl (pi_range1 (by rfl) T.m_range (pa_cons (pe_callB call_lenA (by rfl) T.m_len bt_len (pa_cons (pv 0) pa_nil)) pa_nil)) (pg_name (i := 4) sc_law_counted.nd rfl (by first | exact Or.inl rfl | exact Or.inr rfl))
 (pss_cons (ps_set (i := 5) sc_law_counted.nd rfl (by first | exact Or.inl rfl | exact Or.inr rfl) (pe_ix ix_seq (pe_ix ix_seq (pv 0) (pv 4) (fun _ _ => rfl)) pe_int (fun _ _ => rfl)))
 (pss_one (ps_if (pt_cmpR op_isN (pv 5) pe_non (nomark _))
 (pss_one (ps_set (i := 3) sc_law_counted.nd rfl (by first | exact Or.inl rfl | exact Or.inr rfl) pe_bl))
 (pss_one (ps_if (pt_cmpR (op_eqD hu) (pe_ix ix_seq (pv 5) pe_int (fun _ _ => rfl)) pe_str (nomark _))
 (pss_cons (ps_set (i := 1) sc_law_counted.nd rfl (by first | exact Or.inl rfl | exact Or.inr rfl) (pe_lst (pa_cons (pv 5) pa_nil)))
 (pss_cons (ps_set (i := 2) sc_law_counted.nd rfl (by first | exact Or.inl rfl | exact Or.inr rfl) (pe_op op_addA (pv 4) pe_int))
 (pss_one (ps_set (i := 3) sc_law_counted.nd rfl (by first | exact Or.inl rfl | exact Or.inr rfl) pe_bl))))
 (pss_one (ps_if (pt_truth (pv 3) (fun _ => rfl))
 (pss_cons (ps_expr (pe_bm PySem.F.plainAttrs_list PySem.F.slot_list_append PySem.F.type_list_append mt_append (pv 1) (pa_cons (pv 5) pa_nil)))
 (pss_one (ps_set (i := 2) sc_law_counted.nd rfl (by first | exact Or.inl rfl | exact Or.inr rfl) (pe_op op_addA (pv 4) pe_int))))
 pss_nil))))))))
 (pss_one (ps_ret (pe_tup (pa_cons (pe_callTy call_tuple_of (by rfl) T.m_tuple bt_tuple (pa_cons (pv 1) pa_nil)) (pa_cons (pv 2) pa_nil))))))))), ?_⟩
  exact ((sr_seq (sr_asgO (eo_lst ar_nil))
 (sr_seq (sr_asg er_int (gr'_name 2))
 (sr_seq (sr_asg er_bl (gr'_name 3))
 (sr_seq (sr_for (ir_rng1 (ar_cons (er_n rc_len (ar_cons (er_var 0) ar_nil)) ar_nil)) (gr'_name 4)
 (sr_seq (sr_asg (er_2 rr_ix (er_2 rr_ix (er_var 0) (er_var 4)) er_int) (gr'_name 5))
 (sr_if (tr_test (er_2 rr_is (er_var 5) er_non))
 (sr_asg er_bl (gr'_name 3))
 (sr_if (tr_test (er_2 rr_eq (er_2 rr_ix (er_var 5) er_int) er_str))
 (sr_seq (sr_asgO (eo_lst (ar_cons (er_var 5) ar_nil)))
 (sr_seq (sr_asg (er_2 rr_add (er_var 4) er_int) (gr'_name 2))
 (sr_asg er_bl (gr'_name 3))))
 (sr_if (tr_tru (er_var 3))
 (sr_seq (sr_app (i := 1) (er_var 5))
 (sr_asg (er_2 rr_add (er_var 4) er_int) (gr'_name 2)))
 sr_next)))))
 (sr_frz [1] (sr_ret (er_tup (ar_cons (er_n rc_tuple (ar_cons (er_var 1) ar_nil)) (ar_cons (er_var 2) ar_nil))))))))) : SR K _ (t_law_counted))
theorem sc_law_reads : FnScope N_law_reads ["handed", "strings"] (defScope s_law_reads) := ⟨rfl, rfl, rfl, by decide +kernel, rfl, by decide +kernel, by decide +kernel⟩
theorem ok_law_reads (T : Txt K mg) : FnOk P w K mg base CX0 10 T.f_law_reads T.fd_law_reads ["handed", "strings"] (spG K 2 (g_law_reads)) := by
  have G_law_counted := ok_law_counted (P := P) (w := w) (base := base) T
  have G_read_log := ok_read_log (P := P) (w := w) (base := base) T
  have G_law_alike := ok_law_alike (P := P) (w := w) (base := base) T
  have G_log_end := ok_log_end (P := P) (w := w) (base := base) T
  have G_law_is_integer := ok_law_is_integer (P := P) (w := w) (base := base) T
  refine fnG (m := 4) T.F_law_reads sc_law_reads rfl rfl (fun cdv A outer s H E hr => ?_)
  have hu := hr.units
  refine ⟨_, (pss_cons (ps_set (i := 2) sc_law_reads.nd rfl (by first | exact Or.inl rfl | exact Or.inr rfl) (pe_call G_law_counted (hr.mono (by decide)) (by rfl) T.g_law_counted T.F_law_counted.kp T.b_law_counted .nil pass0 (pa_cons (pv 1) pa_nil)))
 (pss_cons (ps_set (i := 3) sc_law_reads.nd rfl (by first | exact Or.inl rfl | exact Or.inr rfl) (pe_call G_read_log (hr.mono (by decide)) (by rfl) T.g_read_log T.F_read_log.kp T.b_read_log .nil pass0 (pa_cons (pv 0) pa_nil)))
 (pss_cons (ps_if ((pw_or (pt_not (pt_truth (pe_callB call_isi (by rfl) T.m_isinstance bt_isinstance (pa_cons (pv 3) (pa_cons (pe_bltn (v := .ty "list") (by rfl) T.m_list bt_list rfl) pa_nil))) (fun _ => rfl))) (pw_or1 (pt_not (pt_truth (pe_call G_law_alike (hr.mono (by decide)) (by rfl) T.g_law_alike T.F_law_alike.kp T.b_law_alike .nil pass0 (pa_cons (pe_callTy call_tuple_of (by rfl) T.m_tuple bt_tuple (pa_cons (pv 3) pa_nil)) (pa_cons (pe_ix ix_seq (pv 2) pe_int (fun _ _ => rfl)) pa_nil))) (fun _ => rfl)))))).pt
 (pss_one (ps_ret pe_bl))
 pss_nil)
 (pss_cons (ps_expr (pe_bm PySem.F.plainAttrs_list PySem.F.slot_list_append PySem.F.type_list_append mt_append (pv 3) (pa_cons (pe_tup (pa_cons pe_str (pa_cons pe_str pa_nil))) pa_nil)))
 (pss_cons (ps_set (i := 4) sc_law_reads.nd rfl (by first | exact Or.inl rfl | exact Or.inr rfl) (pe_call G_log_end (hr.mono (by decide)) (by rfl) T.g_log_end T.F_log_end.kp T.b_log_end .nil pass0 (pa_cons (pv 0) pa_nil)))
 (pss_one (ps_ret (pe_and (pe_call G_law_is_integer (hr.mono (by decide)) (by rfl) T.g_law_is_integer T.F_law_is_integer.kp T.b_law_is_integer .nil pass0 (pa_cons (pv 4) pa_nil)) (pe_and (pe_cmpR (op_eqD hu) (pv 4) (pe_ix ix_seq (pv 2) pe_int (fun _ _ => rfl)) (nomark _)) (pe_one (pe_cmpR (op_eqD hu) (pv 0) (pe_lc (own := [("string", 5)]) (g := (gName 5)) (tt := tYes) (te := (tOp (rIx K) (tVar 5) (tC (.int 0)))) rfl sc_law_reads.nd (pi_seq (pv 1)) (blkOk_by (N := N_law_reads) (sc := defScope s_law_reads) (by decide +kernel)) (fun _ _ _ _ _ => (pg_name (i := 5) sc_law_reads.nd rfl (by first | exact Or.inl rfl | exact Or.inr rfl))) (fun _ _ _ _ _ => pts_nil) (fun _ _ _ _ _ => (pe_ix ix_seq (pv 5) pe_int (fun _ _ => rfl)))) (nomark _)))))))))))), ?_⟩
  exact ((sr_seq (sr_asg (er_call (ar_cons (er_var 1) ar_nil)) (gr'_name 2))
 (sr_seq (sr_asgO (eo_call (ar_cons (er_var 0) ar_nil)))
 (sr_seq (sr_if (tr_peek (tr_or (tr_not (tr_tru (er_n rc_isi (ar_cons (er_var 3) (ar_cons er_ty ar_nil))))) (tr_not (tr_tru (er_call (ar_cons (er_n rc_tuple (ar_cons (er_var 3) ar_nil)) (ar_cons (er_2 rr_ix (er_var 2) er_int) ar_nil)))))))
 (sr_ret er_bl)
 sr_next)
 (sr_seq (sr_app (i := 3) (er_tup (ar_cons er_str (ar_cons er_str ar_nil))))
 (sr_seq (sr_asg (er_call (ar_cons (er_var 0) ar_nil)) (gr'_name 4))
 (sr_ret (er_and (er_call (ar_cons (er_var 4) ar_nil)) (er_and (er_2 rr_eq (er_var 4) (er_2 rr_ix (er_var 2) er_int)) (er_2 rr_eq (er_var 0) (er_of_eo (eo_lc (vs := [5]) (ir_seq (er_var 1)) (grc_name (j := 5) (by decide)) tr_yes (er_2 rr_ix (er_var 5) er_int)))))))))))) : SR K _ (t_law_reads))
theorem sc_law : FnScope N_law ["script"] (defScope s_law) := ⟨rfl, rfl, rfl, by decide +kernel, rfl, by decide +kernel, by decide +kernel⟩
theorem ok_law (T : Txt K mg) : FnOk P w K mg base CX0 11 T.f_law T.fd_law ["script"] (spG K 1 (g_law)) := by
  have G_law_cell := ok_law_cell (P := P) (w := w) (base := base) T
  have G_law_names := ok_law_names (P := P) (w := w) (base := base) T
  have G_law_string := ok_law_string (P := P) (w := w) (base := base) T
  have G_law_sizes := ok_law_sizes (P := P) (w := w) (base := base) T
  have G_law_draws := ok_law_draws (P := P) (w := w) (base := base) T
  have G_law_reads := ok_law_reads (P := P) (w := w) (base := base) T
  have G_law_small := ok_law_small (P := P) (w := w) (base := base) T
  have G_law_text_of := ok_law_text_of (P := P) (w := w) (base := base) T
  refine fnG (m := 9) T.F_law sc_law rfl rfl (fun cdv A outer s H E hr => ?_)
  have hu := hr.units
  refine ⟨_, (pss_cons (ps_set (i := 1) sc_law.nd rfl (by first | exact Or.inl rfl | exact Or.inr rfl) (pe_call G_law_names (hr.mono (by decide)) (by rfl) T.g_law_names T.F_law_names.kp T.b_law_names .nil pass0 (pa_cons (pe_call G_law_cell (hr.mono (by decide)) (by rfl) T.g_law_cell T.F_law_cell.kp T.b_law_cell .nil pass0 (pa_cons (pv 0) (pa_cons pe_int pa_nil))) pa_nil)))
 (pss_cons (ps_set (i := 2) sc_law.nd rfl (by first | exact Or.inl rfl | exact Or.inr rfl) (pe_lst pa_nil))
 (pss_cons (ps_set (i := 3) sc_law.nd rfl (by first | exact Or.inl rfl | exact Or.inr rfl) pe_non)
 (pss_cons (ps_for PassesOwn.never rfl (pi_range1 (by rfl) T.m_range (pa_cons (pe_callB (call_minA rfl) (by rfl) T.m_min bt_min (pa_cons pe_int (pa_cons (pe_callB (call_maxA rfl) (by rfl) T.m_max bt_max (pa_cons pe_int (pa_cons (pe_op op_sub (pe_callB call_lenA (by rfl) T.m_len bt_len (pa_cons (pv 0) pa_nil)) pe_int) pa_nil))) pa_nil))) pa_nil)) (pg_name (i := 4) sc_law.nd rfl (by first | exact Or.inl rfl | exact Or.inr rfl))
 (pss_cons (ps_expr (pe_bm PySem.F.plainAttrs_list PySem.F.slot_list_append PySem.F.type_list_append mt_append (pv 2) (pa_cons (pe_call G_law_string (hr.mono (by decide)) (by rfl) T.g_law_string T.F_law_string.kp T.b_law_string .nil pass0 (pa_cons (pe_op op_addA (pe_call G_law_cell (hr.mono (by decide)) (by rfl) T.g_law_cell T.F_law_cell.kp T.b_law_cell .nil pass0 (pa_cons (pv 0) (pa_cons (pe_op op_addA pe_int (pv 4)) pa_nil))) (pe_op op_mulA pe_int (pv 4))) (pa_cons (pv 1) (pa_cons (pv 3) pa_nil)))) pa_nil)))
 (pss_one (ps_set (i := 3) sc_law.nd rfl (by first | exact Or.inl rfl | exact Or.inr rfl) (pe_ix ix_seq (pe_ix ix_seq (pv 2) (pv 4) (fun _ _ => rfl)) pe_int (fun _ _ => rfl))))))
 (pss_cons (ps_set (i := 5) sc_law.nd rfl (by first | exact Or.inl rfl | exact Or.inr rfl) (pe_call G_law_draws (hr.mono (by decide)) (by rfl) T.g_law_draws T.F_law_draws.kp T.b_law_draws .nil pass0 (pa_cons (pe_op op_addA (pe_call G_law_cell (hr.mono (by decide)) (by rfl) T.g_law_cell T.F_law_cell.kp T.b_law_cell .nil pass0 (pa_cons (pv 0) (pa_cons pe_int pa_nil))) pe_int) (pa_cons (pe_op op_addA (pe_lst (pa_cons pe_int (pa_cons pe_int (pa_cons pe_int pa_nil)))) (pe_call0 G_law_sizes (hr.mono (by decide)) (by rfl) T.g_law_sizes T.F_law_sizes.kp T.b_law_sizes .nil pass0)) pa_nil))))
 (pss_cons (ps_if (pt_cmpR (op_eqD hu) (pe_ix ix_seq (pv 5) pe_int (fun _ _ => rfl)) pe_int (nomark _))
 (pss_one (ps_set (i := 2) sc_law.nd rfl (by first | exact Or.inl rfl | exact Or.inr rfl) (pe_op op_addA (pv 2) (pe_op op_mulA (pe_lst (pa_cons (pe_ix ix_seq (pv 2) (pe_op op_mod (pe_callTy call_int1 (by rfl) T.m_int bt_int (pa_cons (pe_ix ix_seq (pv 5) pe_int (fun _ _ => rfl)) pa_nil)) (pe_callB call_lenA (by rfl) T.m_len bt_len (pa_cons (pv 2) pa_nil))) (fun _ _ => rfl)) pa_nil)) pe_int))))
 pss_nil)
 (pss_cons (ps_setLc (i := 6) (own := [("string", 9)]) (g := (gName 9)) (tt := tYes) (te := (tOp (rIx K) (tVar 9) (tC (.int 0)))) rfl sc_law.nd rfl rfl (sw_true rfl rfl rfl (by decide +kernel)) (pi_seq (pv 2)) (blkOk_by (N := N_law) (sc := defScope s_law) (by decide +kernel)) (fun _ _ _ _ _ => (pg_name (i := 9) sc_law.nd rfl (by first | exact Or.inl rfl | exact Or.inr rfl))) (fun _ _ _ _ _ => pts_nil) (fun _ _ _ _ _ => (pe_ix ix_seq (pv 9) pe_int (fun _ _ => rfl))))
 (pss_cons (ps_if ((pw_or (pt_not (pt_truth (pe_call G_law_reads (hr.mono (by decide)) (by rfl) T.g_law_reads T.F_law_reads.kp T.b_law_reads .nil pass0 (pa_cons (pv 6) (pa_cons (pv 2) pa_nil))) (fun _ => rfl))) (pw_or1 (pt_not (pt_truth (pe_call G_law_reads (hr.mono (by decide)) (by rfl) T.g_law_reads T.F_law_reads.kp T.b_law_reads .nil pass0 (pa_cons (pv 6) (pa_cons (pv 2) pa_nil))) (fun _ => rfl)))))).pt
 (pss_one (ps_ret pe_bl))
 pss_nil)
 (pss_cons (ps_set (i := 7) sc_law.nd rfl (by first | exact Or.inl rfl | exact Or.inr rfl) (pe_op op_mod (pe_callTy call_int1 (by rfl) T.m_int bt_int (pa_cons (pe_ix ix_seq (pv 5) pe_int (fun _ _ => rfl)) pa_nil)) (pe_op op_addA (pe_callB call_lenA (by rfl) T.m_len bt_len (pa_cons (pv 2) pa_nil)) pe_int)))
 (pss_cons (ps_if (pt_not (pt_truth (pe_call G_law_reads (hr.mono (by decide)) (by rfl) T.g_law_reads T.F_law_reads.kp T.b_law_reads .nil pass0 (pa_cons (pe_lc (own := [("string", 9)]) (g := (gName 9)) (tt := tYes) (te := (tOp (rIx K) (tVar 9) (tC (.int 0)))) rfl sc_law.nd (pi_seq (pe_slice sl_list (pv 2) po_none (po_some (pv 7)))) (blkOk_by (N := N_law) (sc := defScope s_law) (by decide +kernel)) (fun _ _ _ _ _ => (pg_name (i := 9) sc_law.nd rfl (by first | exact Or.inl rfl | exact Or.inr rfl))) (fun _ _ _ _ _ => pts_nil) (fun _ _ _ _ _ => (pe_ix ix_seq (pv 9) pe_int (fun _ _ => rfl)))) (pa_cons (pe_slice sl_list (pv 2) po_none (po_some (pv 7))) pa_nil))) (fun _ => rfl)))
 (pss_one (ps_ret pe_bl))
 pss_nil)
 (pss_cons (ps_set (i := 8) sc_law.nd rfl (by first | exact Or.inl rfl | exact Or.inr rfl) (pe_call G_law_small (hr.mono (by decide)) (by rfl) T.g_law_small T.F_law_small.kp T.b_law_small .nil pass0 (pa_cons (pv 5) (pa_cons pe_int (pa_cons pe_bl (pa_cons (pv 1) pa_nil))))))
 (pss_cons (ps_expr (pe_bm PySem.F.plainAttrs_list PySem.F.slot_list_append PySem.F.type_list_append mt_append (pv 6) (pa_cons (pe_call G_law_text_of (hr.mono (by decide)) (by rfl) T.g_law_text_of T.F_law_text_of.kp T.b_law_text_of .nil pass0 (pa_cons (pv 8) pa_nil)) pa_nil)))
 (pss_one (ps_ret (pe_call G_law_reads (hr.mono (by decide)) (by rfl) T.g_law_reads T.F_law_reads.kp T.b_law_reads .nil pass0 (pa_cons (pv 6) (pa_cons (pe_op op_addA (pv 2) (pe_lst (pa_cons (pe_tup (pa_cons (pe_call G_law_text_of (hr.mono (by decide)) (by rfl) T.g_law_text_of T.F_law_text_of.kp T.b_law_text_of .nil pass0 (pa_cons (pv 8) pa_nil)) (pa_cons (pv 8) pa_nil))) pa_nil))) pa_nil))))))))))))))))), ?_⟩
  exact ((sr_seq (sr_asg (er_call (ar_cons (er_call (ar_cons (er_var 0) (ar_cons er_int ar_nil))) ar_nil)) (gr'_name 1))
 (sr_seq (sr_asgO (eo_lst ar_nil))
 (sr_seq (sr_asg er_non (gr'_name 3))
 (sr_seq (sr_for (ir_rng1 (ar_cons (er_n rc_min (ar_cons er_int (ar_cons (er_n rc_max (ar_cons er_int (ar_cons (er_2 rr_sub (er_n rc_len (ar_cons (er_var 0) ar_nil)) er_int) ar_nil))) ar_nil))) ar_nil)) (gr'_name 4)
 (sr_seq (sr_app (i := 2) (er_call (ar_cons (er_2 rr_add (er_call (ar_cons (er_var 0) (ar_cons (er_2 rr_add er_int (er_var 4)) ar_nil))) (er_2 rr_mul er_int (er_var 4))) (ar_cons (er_var 1) (ar_cons (er_var 3) ar_nil)))))
 (sr_asg (er_peekF (er_2 rr_ix (er_2 rr_ix (er_var 2) (er_var 4)) er_int)) (gr'_name 3))))
 (sr_seq (sr_asg (er_call (ar_cons (er_2 rr_add (er_call (ar_cons (er_var 0) (ar_cons er_int ar_nil))) er_int) (ar_cons (er_2 rr_add (er_lst (ar_cons er_int (ar_cons er_int (ar_cons er_int ar_nil)))) (er_call ar_nil)) ar_nil))) (gr'_name 5))
 (sr_seq (sr_if (tr_test (er_2 rr_eq (er_2 rr_ix (er_var 5) er_int) er_int))
 (sr_frz [2] (sr_asg (er_2 rr_add (er_var 2) (er_2 rr_mul (er_lst (ar_cons (er_2 rr_ix (er_var 2) (er_2 rr_mod (er_n rc_int (ar_cons (er_2 rr_ix (er_var 5) er_int) ar_nil)) (er_n rc_len (ar_cons (er_var 2) ar_nil)))) ar_nil)) er_int)) (gr'_name 2)))
 sr_next)
 (sr_seq (sr_frz [2] (sr_asgO (eo_lc (vs := [9]) (ir_seq (er_var 2)) (grc_name (j := 9) (by decide)) tr_yes (er_2 rr_ix (er_var 9) er_int))))
 (sr_seq (sr_if (tr_peek (tr_or (tr_not (tr_tru (er_call (ar_cons (er_var 6) (ar_cons (er_var 2) ar_nil))))) (tr_not (tr_tru (er_call (ar_cons (er_var 6) (ar_cons (er_var 2) ar_nil)))))))
 (sr_ret er_bl)
 sr_next)
 (sr_seq (sr_asg (er_peekF (er_2 rr_mod (er_n rc_int (ar_cons (er_2 rr_ix (er_var 5) er_int) ar_nil)) (er_2 rr_add (er_n rc_len (ar_cons (er_var 2) ar_nil)) er_int))) (gr'_name 7))
 (sr_seq (sr_if (tr_peek (tr_not (tr_tru (er_call (ar_cons (er_of_eo (eo_lc (vs := [9]) (ir_seq (er_sl (er_var 2) or_none (or_some (er_var 7)))) (grc_name (j := 9) (by decide)) tr_yes (er_2 rr_ix (er_var 9) er_int))) (ar_cons (er_sl (er_var 2) or_none (or_some (er_var 7))) ar_nil))))))
 (sr_ret er_bl)
 sr_next)
 (sr_seq (sr_asg (er_call (ar_cons (er_var 5) (ar_cons er_int (ar_cons er_bl (ar_cons (er_var 1) ar_nil))))) (gr'_name 8))
 (sr_seq (sr_app (i := 6) (er_call (ar_cons (er_var 8) ar_nil)))
 (sr_ret (er_peekF (er_call (ar_cons (er_var 6) (ar_cons (er_2 rr_add (er_var 2) (er_lst (ar_cons (er_tup (ar_cons (er_call (ar_cons (er_var 8) ar_nil)) (ar_cons (er_var 8) ar_nil))) ar_nil))) ar_nil))))))))))))))))) : SR K _ (t_law))
end
end Y
end

section
set_option Elab.async false
set_option linter.all false
set_option maxRecDepth 100000
set_option autoImplicit false
set_option maxHeartbeats 2000000
/-! Loops by a word. -/
namespace Zk
open PySem L2
def StepTo (o : Option Out) (J : Gm → Prop) : Prop := ∃ g, (o = some (.nx g) ∨ o = some (.ct g)) ∧ J g
theorem step_nx {g : Gm} {J : Gm → Prop} (h : J g) : StepTo (some (.nx g)) J := ⟨g, .inl rfl, h⟩
def Gets (o : Option Wd) (C : Wd → Prop) : Prop := ∃ w, o = some w ∧ C w
theorem gets_some {w : Wd} {C : Wd → Prop} (h : C w) : Gets (some w) C := ⟨w, rfl, h⟩
theorem loop_by {f : DGF} {s : SF} {ds : List D} (I : Nat → Gm → Prop) {g : Gm} (h0 : I 0 g) (hs : ∀ (i : Nat) (d : D) (g : Gm), ds[i]? = some d → I i g → ∃ g1, f d g = some g1 ∧ StepTo (s g1) (I (i + 1))) :
    ∃ g', loopD f s ds g = some (.nx g') ∧ I ds.length g' := loop_inv I h0 fun i d g hd hI => by
  obtain ⟨g1, h1, g2, h2, h3⟩ := hs i d g hd hI
  exact ⟨g1, g2, h1, h2, h3⟩
theorem loop_then {f : DGF} {s q : SF} {ds : List D} {C : Option Out → Prop} (I : Nat → Gm → Prop) {g : Gm} (h0 : I 0 g) (hs : ∀ (i : Nat) (d : D) (g : Gm), ds[i]? = some d → I i g → ∃ g1, f d g = some g1 ∧ StepTo (s g1) (I (i + 1)))
    (k : ∀ g', I ds.length g' → C (q g')) : C (apSeq (loopD f s ds g) q) := by
  obtain ⟨g', e, h⟩ := loop_by I h0 hs
  rw [e]
  exact k g' h
/-- over a range, the turn's number in slot k -/
theorem rng_by {s : SF} {n k : Nat} (I : Nat → Gm → Prop) {g : Gm} (h0 : I 0 g) (hk : ∀ i g, I i g → okSlot g k = true) (hs : ∀ (i : Nat) (g : Gm), i < n → I i g → StepTo (s (g.set k (some (.v (.int (i : Int)))))) (I (i + 1))) :
    ∃ g', loopD (dName k) s (rngL 0 n) g = some (.nx g') ∧ I n g' := by
  obtain ⟨g', e, h⟩ := loop_by (f := dName k) (s := s) (ds := rngL 0 n) I h0 fun i d g hd hI => by
    obtain ⟨hi, rfl⟩ := rng_get hd
    exact ⟨_, dName_ok (hk i g hI), by rw [Int.zero_add]; exact hs i g hi hI⟩
  rw [rng_len] at h
  exact ⟨g', e, h⟩
theorem rng_then {s q : SF} {n k : Nat} {C : Option Out → Prop} (I : Nat → Gm → Prop) {g : Gm} (h0 : I 0 g) (hk : ∀ i g, I i g → okSlot g k = true) (hs : ∀ (i : Nat) (g : Gm), i < n → I i g → StepTo (s (g.set k (some (.v (.int (i : Int)))))) (I (i + 1)))
    (kk : ∀ g', I n g' → C (q g')) : C (apSeq (loopD (dName k) s (rngL 0 n) g) q) := by
  obtain ⟨g', e, h⟩ := rng_by I h0 hk hs
  rw [e]
  exact kk g' h
/-- numbers below their sizes -/
def Below (ds sizes : List Int) : Prop := ds.length = sizes.length ∧ ∀ (i : Nat) (d s : Int), ds[i]? = some d → sizes[i]? = some s → 0 ≤ d ∧ d < s
theorem Below.get {ds sizes : List Int} (h : Below ds sizes) {i : Nat} {s : Int} (hs : sizes[i]? = some s) : ∃ d, ds[i]? = some d ∧ 0 ≤ d ∧ d < s := by
  have hi : i < sizes.length := (List.getElem?_eq_some_iff.mp hs).1
  rw [← h.1] at hi
  exact ⟨ds[i], List.getElem?_eq_getElem hi, h.2 i _ s (List.getElem?_eq_getElem hi) hs⟩
theorem pow10_12 : powD (.int 10) (.int 12) = some (.int 1000000000000) := by rfl
theorem pow10_18 : powD (.int 10) (.int 18) = some (.int 1000000000000000000) := by rfl
theorem pow10_39 : powD (.int 10) (.int 39) = some (.int (10 ^ 39)) := by rfl
theorem pow10_41 : powD (.int 10) (.int 41) = some (.int (10 ^ 41)) := by rfl
theorem pow10_59 : powD (.int 10) (.int 59) = some (.int (10 ^ 59)) := by rfl
theorem pow10_60 : powD (.int 10) (.int 60) = some (.int (10 ^ 60)) := by rfl
theorem ix_i {ns : List Int} {m : Nat} {j : Int} (h : ns[m]? = some j) : ixD (.lst (iL ns)) (.int (m : Int)) = some (.int j) := ix_l (by rw [iL_get, h] <;> rfl)

theorem mul_lz {ds : List D} {k : Int} (h : k ≤ 100000 ∧ -100000 ≤ k ∧ ds.length * k.toNat ≤ 100000) : mulD (.lst ds) (.int k) = some (.lst (List.replicate k.toNat ds).flatten) := if_pos h
/-- ascending numbers below n -/
def Asc (n : Nat) (hs : List Int) : Prop := hs.Pairwise (· < ·) ∧ ∀ h ∈ hs, 0 ≤ h ∧ h < (n : Int)
def rngI (lo : Int) (n : Nat) : List Int := (List.range n).map fun i => lo + ((i : Nat) : Int)
theorem rngI_pw (lo : Int) (n : Nat) : (rngI lo n).Pairwise (· < ·) := by
  unfold rngI
  rw [List.pairwise_map]
  exact List.pairwise_lt_range.imp fun {a b} h => by omega
theorem rngI_mem {lo : Int} {n : Nat} {k : Int} : k ∈ rngI lo n ↔ lo ≤ k ∧ k < lo + n := by
  unfold rngI
  rw [List.mem_map]
  constructor
  · rintro ⟨i, hi, rfl⟩
    rw [List.mem_range] at hi
    omega
  · rintro ⟨h1, h2⟩
    exact ⟨(k - lo).toNat, List.mem_range.mpr (by omega), by omega⟩
theorem Asc.sub {n : Nat} {hs : List Int} (h : hs.Sublist (rngI 0 n)) : Asc n hs :=
  ⟨(rngI_pw 0 n).sublist h, fun k hk => by have := rngI_mem.mp (h.subset hk); omega⟩
theorem Asc.nodup {n : Nat} {hs : List Int} (h : Asc n hs) : hs.Nodup := h.1.imp fun q => by omega
theorem Asc.len {n : Nat} {hs : List Int} (h : Asc n hs) : hs.length ≤ n := by
  have s : ∀ (ks : List Int) (m : Int), ks.Pairwise (· < ·) → (∀ k ∈ ks, m ≤ k ∧ k < (n : Int)) → m ≤ n → (ks.length : Int) ≤ n - m := by
    intro ks
    induction ks with
    | nil => intro m _ _ hm; simp; omega
    | cons k ks ih =>
      intro m hp hk hm
      have hp' := List.pairwise_cons.mp hp
      have := hk k List.mem_cons_self
      have ih := ih (k + 1) hp'.2 (fun j hj => ⟨by have := hp'.1 j hj; omega, (hk j (List.mem_cons_of_mem _ hj)).2⟩) (by omega)
      rw [List.length_cons]
      omega
  have := s hs 0 h.1 (fun k hk => h.2 k hk) (by omega)
  omega
/-- pairs -/
def pr (a b : Int) : D := .tup [.int a, .int b]
theorem flat4_iL (ns : List Int) : (iL ns).all D.flat4 = true := by
  unfold iL
  rw [List.all_map]
  exact List.all_eq_true.mpr fun x _ => rfl
theorem any_iL (ns : List Int) (k : Int) : ((iL ns).any fun z => eqF z (.int k)) = ns.contains k := by
  unfold iL
  rw [List.any_map, List.contains_eq_any_beq]
  congr 1
  funext x
  show (x == k) = (k == x)
  exact Bool.eq_iff_iff.mpr ⟨fun h => by rw [eq_of_beq h]; exact beq_self_eq_true _, fun h => by rw [eq_of_beq h]; exact beq_self_eq_true _⟩
theorem in_l {ns : List Int} {k : Int} : inD (.int k) (.lst (iL ns)) = some (.bl (ns.contains k)) := by
  show (if ((D.int k).flat4 && (iL ns).all D.flat4) = true then some ((iL ns).any fun z => eqF z (.int k)) else none).map D.bl = _
  rw [flat4_iL, any_iL]
  rfl
theorem in_t {ns : List Int} {k : Int} : inD (.int k) (.tup (iL ns)) = some (.bl (ns.contains k)) := by
  show (if ((D.int k).flat4 && (iL ns).all D.flat4) = true then some ((iL ns).any fun z => eqF z (.int k)) else none).map D.bl = _
  rw [flat4_iL, any_iL]
  rfl
theorem in_pr {a b k : Int} : inD (.int k) (pr a b) = some (.bl ([a, b].contains k)) := in_t (ns := [a, b])
/-- rows of seats -/
def rowsL (hs : List (List Int)) : List D := hs.map fun h => .lst (iL h)
def rowsT (hs : List (List Int)) : List D := hs.map fun h => .tup (iL h)
structure PoolOk (caps : List Int) (hs : List (List Int)) (m : Nat) : Prop where
  s1 : 1 ≤ caps.length
  s12 : caps.length ≤ 12
  c0 : ∀ c ∈ caps, 0 ≤ c ∧ c < 10 ^ 60
  pm : hs.length ≤ m
  asc : ∀ h ∈ hs, Asc caps.length h
theorem call1 {gf : PF} {a0 : D} : apCall 1 gf (some [a0]) = (gf [a0]).map Wd.d := (rfl)
theorem callO1 {gf : PF} {a0 : D} : apCallO 1 gf (some [a0]) = toO (gf [a0]) := (rfl)
theorem call2 {gf : PF} {a0 a1 : D} : apCall 2 gf (some [a0, a1]) = (gf [a0, a1]).map Wd.d := (rfl)
theorem callO2 {gf : PF} {a0 a1 : D} : apCallO 2 gf (some [a0, a1]) = toO (gf [a0, a1]) := (rfl)
theorem call3 {gf : PF} {a0 a1 a2 : D} : apCall 3 gf (some [a0, a1, a2]) = (gf [a0, a1, a2]).map Wd.d := (rfl)
theorem callO3 {gf : PF} {a0 a1 a2 : D} : apCallO 3 gf (some [a0, a1, a2]) = toO (gf [a0, a1, a2]) := (rfl)
theorem call4 {gf : PF} {a0 a1 a2 a3 : D} : apCall 4 gf (some [a0, a1, a2, a3]) = (gf [a0, a1, a2, a3]).map Wd.d := (rfl)
theorem callO4 {gf : PF} {a0 a1 a2 a3 : D} : apCallO 4 gf (some [a0, a1, a2, a3]) = toO (gf [a0, a1, a2, a3]) := (rfl)
theorem call5 {gf : PF} {a0 a1 a2 a3 a4 : D} : apCall 5 gf (some [a0, a1, a2, a3, a4]) = (gf [a0, a1, a2, a3, a4]).map Wd.d := (rfl)
theorem callO5 {gf : PF} {a0 a1 a2 a3 a4 : D} : apCallO 5 gf (some [a0, a1, a2, a3, a4]) = toO (gf [a0, a1, a2, a3, a4]) := (rfl)
theorem call6 {gf : PF} {a0 a1 a2 a3 a4 a5 : D} : apCall 6 gf (some [a0, a1, a2, a3, a4, a5]) = (gf [a0, a1, a2, a3, a4, a5]).map Wd.d := (rfl)
theorem callO6 {gf : PF} {a0 a1 a2 a3 a4 a5 : D} : apCallO 6 gf (some [a0, a1, a2, a3, a4, a5]) = toO (gf [a0, a1, a2, a3, a4, a5]) := (rfl)
theorem dgTup2_a {m : DGFs} {a b : D} {g : Gm} : dgTup 2 m (.tup [a, b]) g = m [a, b] g := rfl
theorem dgTup3_a {m : DGFs} {a b e : D} {g : Gm} : dgTup 3 m (.tup [a, b, e]) g = m [a, b, e] g := rfl
end Zk
end

section
set_option Elab.async false
set_option linter.all false
set_option maxRecDepth 100000
set_option maxHeartbeats 2000000
/-! What the laws' own helpers are worth. -/
namespace Zc
open PySem L2 Zk
structure Cs where
  Pool : Addr
def t_law_cell : SF :=
 (sSeq (sIf (tDt blD (d2 ltD (dVar 1) (dN lenD (aCons (dVar 0) aNil))))
 (sRet (d2 ixD (dVar 0) (dVar 1)))
 sNext)
 (sRet (dC (.int 0))))
def g_law_cell : PF := runG 0 (t_law_cell)
def t_law_draws : SF :=
 (sSeq (sAsg (dN absD (aCons (dN intD (aCons (dVar 0) aNil)) aNil)) (dName 2))
 (sSeq (sAsg (d2 geD (dVar 2) (d2 powD (dC (.int 10)) (dC (.int 18)))) (dName 3))
 (sSeq (sAsgO (dN mkLst aNil) 4)
 (sSeq (sFor (dRng1 (aCons (dN lenD (aCons (dVar 1) aNil)) aNil)) (dName 5)
 (sSeq (sAsg (d2 ixD (dVar 1) (dVar 5)) (dName 6))
 (sIf (dAndT (tDt truD (dVar 3)) (tDt blD (d2 gtD (dVar 2) (dC (.int 0)))))
 (sSeq (sApp 4 (d2 modD (dN intD (aCons (dVar 2) aNil)) (dVar 6)))
 (sAsg (d2 fdivD (dVar 2) (dVar 6)) (dName 2)))
 (sSeq (sAsg (d2 modD (dN intD (aCons (d2 addD (d2 addD (dN absD (aCons (dN intD (aCons (dVar 0) aNil)) aNil)) (d2 mulD (dC (.int 7919)) (dVar 5))) (dC (.int 13))) aNil)) (dC (.int 2147483647))) (dName 7))
 (sSeq (sAsg (d2 modD (dN intD (aCons (d2 mulD (dVar 7) (d2 addD (dVar 7) (dC (.int 48271)))) aNil)) (dC (.int 2147483629))) (dName 7))
 (sSeq (sAsg (d2 modD (dN intD (aCons (d2 addD (d2 mulD (dVar 7) (d2 addD (dVar 7) (dC (.int 69621)))) (d2 mulD (dC (.int 31)) (dVar 5))) aNil)) (dC (.int 2147483647))) (dName 7))
 (sApp 4 (d2 modD (dN intD (aCons (d2 fdivD (dVar 7) (dC (.int 9))) aNil)) (dVar 6)))))))))
 (sRetV 4)))))
def g_law_draws : PF := runG 6 (t_law_draws)
def t_law_is_integer : SF :=
 (sRet (dAndV (dN isiD (aCons (dVar 0) (aCons (dC (.ty "int")) aNil))) (d1 notD (dN isiD (aCons (dVar 0) (aCons (dC (.ty "bool")) aNil))))))
def g_law_is_integer : PF := runG 0 (t_law_is_integer)
local macro_rules | `(tactic| walk_at "zs") => `(tactic| simp only [mul_lz, List.flatten_cons, List.flatten_nil, Int.reduceToNat, add_ll, pow10_12, pow10_18, pow10_39, pow10_41, pow10_59, pow10_60, mkLst_some, mkTup_some, List.length_cons, List.length_nil, Nat.zero_le, Nat.reduceAdd, Nat.reduceLeDiff, call1, callO1, call2, callO2, call3, callO3, call4, callO4, call5, callO5, call6, callO6, ap1_some, ap2_some, apN_some, apC_some, d1_a, d2_a, dN_a, aNil_a, aCons_a, dC_a, dVar_z, dVar_s, tDt_a, apAnd_t, apAnd_f, apOr_t, apOr_f, dAndT_a, dOrT_a, apNot_some, dNotT_a, apAndV_t, apAndV_f, dAndV_a, apOrV_t, apOrV_f, dOrV_a, apIf_t, apIf_f, dIf_a, apCh_t, apCh_f, apChain_some, dChain_a, apSeq_nx, apSeq_rt, apSeq_ct, apSeq_bk, sSeq_a, apIfS_t, apIfS_f, sIf_a, sNext_a, sCont_a, sBreak_a, apRet_some, sRet_a, apRetO_some, sRetO_a, sRetN_a, getO_z, getO_s, apRetV_some, sRetV_a, ltB_z, ltB_s, okSlot_s, apAsg_some, sAsg_a, dName_ok, apG_some, dgCons_a, dgNil_a, apAsgO_some, sAsgO_a, sApp_a, sSetI_a, apFor_some, sFor_a, dItems_a, dRng1_a, dRng2_a, apEn_some, dEnum_a, sFrz_a, frzs_nil, frzs_cons, frzI_o, frzI_v, frzI_n, frzI_s, frz1_s, frzAll_nil, frzAll_o, frzAll_v, frzAll_n, peekT_a, apPk_int, apPk_bl, apPk_str, apPk_non, peekF_a, dCall_a, toO_o, dCallO_a, dMake_a, Wd_v, Wd_o, dSl_a, apSl_some, oNone_a, oSome_a, apO_some, add_ii, sub_ii, lt_ii, le_ii, gt_ii, ge_ii, eq_ii, ne_ii, neg_i, not_b, bl_b, tru_b, tru_i, tru_l, tru_t, tru_n, len_l, len_t, len_scr, abs_i, int_i, list_l, list_t, tuple_l, tuple_t, min_ii, max_ii, rev_l, items_l, items_t, iL_len, run_a, outW_rt, outW_nx, List.map_cons, List.map_nil, List.replicate, List.append_nil, List.cons_append, List.nil_append, List.set_cons_zero, List.set_cons_succ, Option.map_some])
/-! ### draws -/
theorem draws_spec (c : Int) (sizes : List Int) (hs : ∀ s ∈ sizes, 0 < s ∧ s < 2 ^ 60) (hl : sizes.length ≤ 1000) : Gets (g_law_draws [.int c, .lst (iL sizes)]) fun w => ∃ ds, w = .o (.lst (iL ds)) ∧ Below ds sizes := by
  unfold g_law_draws t_law_draws
  walk_at "zs"
  rw [apR1_some (by omega)]
  walk_at "zs"
  refine rng_then (C := fun o => Gets (outW o) _) (fun i g => ∃ (left : Int) (acc : List Int) (dg : Bool) (k sz mx : Option Wd), g = [some (.v (.int c)), some (.v (.lst (iL sizes))), some (.v (.int left)), some (.v (.bl dg)), some (.o (.lst (iL acc))), k, sz, mx] ∧ acc.length = i ∧
    ∀ (j : Nat) (d s : Int), acc[j]? = some d → sizes[j]? = some s → 0 ≤ d ∧ d < s) ?_ ?_ ?_ ?_
  · exact ⟨_, [], _, _, _, _, rfl, rfl, fun j d s h => by simp at h⟩
  · rintro i g ⟨left, acc, dg, k, sz, mx, rfl, _⟩
    rfl
  · rintro i g hi ⟨left, acc, dg, k, sz, mx, rfl, hlen, hb⟩
    have hsz : sizes[i]? = some sizes[i] := List.getElem?_eq_getElem hi
    obtain ⟨p1, p2⟩ := hs sizes[i] (List.getElem_mem hi)
    have fin : ∀ (x : Int), 0 ≤ x ∧ x < sizes[i] → ∀ (j : Nat) (d s : Int), (acc ++ [x])[j]? = some d → sizes[j]? = some s → 0 ≤ d ∧ d < s := fun x hx j d s h1 h2 => by
      by_cases hj : j < acc.length
      · rw [List.getElem?_append_left hj] at h1
        exact hb j d s h1 h2
      · rw [List.getElem?_append_right (by omega)] at h1
        have e : j = acc.length := by
          by_cases e : j = acc.length
          · exact e
          · rw [List.getElem?_eq_none (by simp; omega)] at h1; cases h1
        subst e
        simp at h1
        rw [hlen, hsz] at h2
        cases h2
        rw [← h1]
        exact hx
    have modb : ∀ x : Int, 0 ≤ x % sizes[i] ∧ x % sizes[i] < sizes[i] := fun x => ⟨Int.emod_nonneg _ (by omega), Int.emod_lt_of_pos _ p1⟩
    have mb : ∀ x m : Int, 0 < m → m < 2 ^ 31 → 0 ≤ x % m ∧ x % m < 2 ^ 31 := fun x m h h' => ⟨Int.emod_nonneg _ (by omega), Int.lt_trans (Int.emod_lt_of_pos _ h) h'⟩
    walk_at "zs"
    rw [ix_i hsz]
    walk_at "zs"
    have step2 : StepTo ((sSeq (sAsg (d2 modD (dN intD (aCons (d2 addD (d2 addD (dN absD (aCons (dN intD (aCons (dVar 0) aNil)) aNil)) (d2 mulD (dC (.int 7919)) (dVar 5))) (dC (.int 13))) aNil)) (dC (.int 2147483647))) (dName 7))
 (sSeq (sAsg (d2 modD (dN intD (aCons (d2 mulD (dVar 7) (d2 addD (dVar 7) (dC (.int 48271)))) aNil)) (dC (.int 2147483629))) (dName 7))
 (sSeq (sAsg (d2 modD (dN intD (aCons (d2 addD (d2 mulD (dVar 7) (d2 addD (dVar 7) (dC (.int 69621)))) (d2 mulD (dC (.int 31)) (dVar 5))) aNil)) (dC (.int 2147483647))) (dName 7))
 (sApp 4 (d2 modD (dN intD (aCons (d2 fdivD (dVar 7) (dC (.int 9))) aNil)) (dVar 6)))))) [some (.v (.int c)), some (.v (.lst (iL sizes))), some (.v (.int left)), some (.v (.bl dg)), some (.o (.lst (iL acc))), some (.v (.int (i : Int))), some (.v (.int sizes[i])), mx]) (fun g => ∃ (left : Int) (acc : List Int) (dg : Bool) (k sz mx : Option Wd), g = [some (.v (.int c)), some (.v (.lst (iL sizes))), some (.v (.int left)), some (.v (.bl dg)), some (.o (.lst (iL acc))), k, sz, mx] ∧ acc.length = i + 1 ∧
    ∀ (j : Nat) (d s : Int), acc[j]? = some d → sizes[j]? = some s → 0 ≤ d ∧ d < s) := by
      walk_at "zs"
      rw [mul_small (by decide) (by omega)]
      walk_at "zs"
      rw [mod_ii (by decide)]
      walk_at "zs"
      have b1 := mb ((if c < 0 then -c else c) + 7919 * (i : Int) + 13) 2147483647 (by decide) (by decide)
      generalize ((if c < 0 then -c else c) + 7919 * (i : Int) + 13) % 2147483647 = m1 at b1 ⊢
      rw [mul_small (by omega) (by omega)]
      walk_at "zs"
      rw [mod_ii (by decide)]
      walk_at "zs"
      have b2 := mb (m1 * (m1 + 48271)) 2147483629 (by decide) (by decide)
      generalize (m1 * (m1 + 48271)) % 2147483629 = m2 at b2 ⊢
      rw [mul_small (by omega) (by omega), mul_small (by decide) (by omega)]
      walk_at "zs"
      rw [mod_ii (by decide)]
      walk_at "zs"
      rw [fdiv_ii (by decide) (by decide)]
      walk_at "zs"
      rw [mod_ii p1, apApp_some (by rw [iL_len]; omega), iL_one, iL_app]
      walk_at "zs"
      exact step_nx ⟨left, _, dg, _, _, _, rfl, by simp [hlen], fin _ (modb _)⟩
    cases dg with
    | false =>
      walk_at "zs"
      exact step2
    | true =>
      walk_at "zs"
      by_cases h0 : 0 < left
      · rw [decide_eq_true h0]
        walk_at "zs"
        rw [mod_ii p1, apApp_some (by rw [iL_len]; omega), iL_one, iL_app]
        walk_at "zs"
        rw [fdiv_ii p1 (by omega)]
        walk_at "zs"
        exact step_nx ⟨_, _, true, _, _, _, rfl, by simp [hlen], fin _ (modb _)⟩
      · rw [decide_eq_false h0]
        walk_at "zs"
        exact step2
  · rintro g' ⟨left, acc, dg, k, sz, mx, rfl, hlen, hb⟩
    walk_at "zs"
    exact gets_some ⟨acc, rfl, hlen, hb⟩
/-! ### bits, pairs -/
/-! ### pools -/
theorem rowsL_snoc {hs : List (List Int)} {h : List Int} : rowsL hs ++ [.lst (iL h)] = rowsL (hs ++ [h]) := by unfold rowsL; rw [List.map_append] <;> rfl
end Zc
end

section
set_option Elab.async false
set_option linter.all false
set_option maxRecDepth 100000
set_option maxHeartbeats 2000000
/-! The pool's own class and functions, as the laws use them. -/
namespace Zc
open PySem L2 Zk
/-! ### items that differ -/
def Hold (n : Nat) (h : List Int) : Prop := h.Nodup ∧ ∀ k ∈ h, 0 ≤ k ∧ k < (n : Int)
theorem Asc.hold {n : Nat} {h : List Int} (a : Asc n h) : Hold n h := ⟨a.nodup, a.2⟩
theorem srt_le (h : List Int) : (srt h).Pairwise (· ≤ ·) := by
  have e := List.pairwise_mergeSort (le := fun a b : Int => decide (a ≤ b)) (fun a b c h1 h2 => by simp at h1 h2 ⊢; omega) (fun a b => by simp; omega) h
  exact e.imp fun q => of_decide_eq_true q
theorem Hold.asc {n : Nat} {h : List Int} (a : Hold n h) : Asc n (srt h) := by
  refine ⟨?_, fun k hk => a.2 k ((srt_perm h).mem_iff.mp hk)⟩
  have e := (srt_le h).and ((srt_perm h).nodup_iff.mpr a.1)
  exact e.imp fun ⟨q, r⟩ => by omega
theorem Hold.len {n : Nat} {h : List Int} (a : Hold n h) : h.length ≤ n := by
  rw [← (srt_perm h).length_eq]
  exact a.asc.len
/-! ### pools -/
end Zc
end

section
set_option Elab.async false
set_option linter.all false
set_option maxRecDepth 100000
set_option maxHeartbeats 2000000
/-! Rooms and held pairs. -/
namespace Zc
open PySem L2 Zk
theorem cut_from {α : Type} (xs : List α) (n : Nat) : cutL xs (some (n : Int)) none = xs.drop n := by
  unfold cutL HT.sIx
  have e : ¬ ((n : Int) < 0) := by omega
  simp only [if_neg e, Int.toNat_natCast]
  by_cases h : n ≤ xs.length
  · rw [Nat.min_eq_left h, List.take_of_length_le (by rw [List.length_drop]; exact Nat.le_refl _)]
  · rw [Nat.min_eq_right (by omega), List.drop_of_length_le (Nat.le_refl _), List.drop_of_length_le (by omega), List.take_nil]
theorem cut_to {α : Type} (xs : List α) (n : Nat) : cutL xs none (some (n : Int)) = xs.take n := by
  unfold cutL HT.sIx
  have e : ¬ ((n : Int) < 0) := by omega
  simp only [if_neg e, Int.toNat_natCast, Nat.sub_zero, List.drop_zero]
  by_cases h : n ≤ xs.length
  · rw [Nat.min_eq_left h]
  · rw [Nat.min_eq_right (by omega), List.take_of_length_le (Nat.le_refl _), List.take_of_length_le (by omega)]
theorem rowsT_len (hs : List (List Int)) : (rowsT hs).length = hs.length := by unfold rowsT; rw [List.length_map]
theorem rowsL_len (hs : List (List Int)) : (rowsL hs).length = hs.length := by unfold rowsL; rw [List.length_map]
theorem ix_p0 {a b : D} : ixD (.tup [a, b]) (.int 0) = some a := rfl
theorem ix_p1 {a b : D} : ixD (.tup [a, b]) (.int 1) = some b := rfl
def capAt (caps : List Int) (k : Int) : Int := caps[k.toNat]?.getD 0
theorem isi_ii {j : Int} : isiD [.int j, .ty "int"] = some (.bl true) := rfl
theorem isi_ib {j : Int} : isiD [.int j, .ty "bool"] = some (.bl false) := rfl
theorem isi_tt {ds : List D} : isiD [.tup ds, .ty "tuple"] = some (.bl true) := rfl
theorem isi_ll {ds : List D} : isiD [.lst ds, .ty "list"] = some (.bl true) := rfl
theorem is_integer_call (j : Int) : (g_law_is_integer [.int j]).map Wd.d = some (.bl true) := rfl
/-! ### held pairs -/
end Zc
end

section
set_option Elab.async false
set_option linter.all false
set_option maxRecDepth 100000
set_option autoImplicit false
set_option maxHeartbeats 2000000
/-! Values laid out as data: ==, in, count. -/
namespace Zk
open PySem L2
structure Enc {α : Type} [DecidableEq α] (f : α → D) (p : α → PyData) (k : Nat) : Prop where
  to : ∀ a, toP (f a) = some (p a)
  eqv : ∀ a b, PyData.eqv (p a) (p b) = decide (a = b)
  lay : ∀ a, (p a).canLay0 = true
  dep : ∀ a, (p a).depth ≤ k
section
variable {α : Type} [DecidableEq α] {f : α → D} {p : α → PyData} {k : Nat}
theorem Enc.tos (e : Enc f p k) : ∀ xs : List α, toPs (xs.map f) = some (xs.map p)
  | [] => rfl
  | x :: xs => by
    show (toP (f x)).bind (fun q => (toPs (xs.map f)).map (q :: ·)) = _
    rw [e.to, e.tos xs]
    rfl
theorem Enc.lays (e : Enc f p k) : ∀ xs : List α, PyData.canLayAll0 (xs.map p) = true
  | [] => rfl
  | x :: xs => by
    show PyData.canLayAll0 (p x :: xs.map p) = true
    unfold PyData.canLayAll0
    rw [e.lay, e.lays xs]
    rfl
theorem Enc.deps (e : Enc f p k) : ∀ xs : List α, PyData.depthAll (xs.map p) ≤ k
  | [] => Nat.zero_le _
  | x :: xs => by
    show PyData.depthAll (p x :: xs.map p) ≤ k
    unfold PyData.depthAll
    exact Nat.max_le.mpr ⟨e.dep x, e.deps xs⟩
theorem Enc.eqvs (e : Enc f p k) : ∀ xs ys : List α, PyData.eqvAll (xs.map p) (ys.map p) = decide (xs = ys)
  | [], [] => by simp [PyData.eqvAll]
  | [], y :: ys => by simp [PyData.eqvAll]
  | x :: xs, [] => by simp [PyData.eqvAll]
  | x :: xs, y :: ys => by
    show PyData.eqvAll (p x :: xs.map p) (p y :: ys.map p) = _
    unfold PyData.eqvAll
    rw [e.eqv, e.eqvs xs ys]
    by_cases h : x = y <;> by_cases h2 : xs = ys <;> simp [h, h2]
theorem Enc.lst (e : Enc f p k) : Enc (fun xs : List α => D.lst (xs.map f)) (fun xs => PyData.list (xs.map p)) (k + 1) where
  to xs := by
    show (toPs (xs.map f)).map PyData.list = _
    rw [e.tos]
    rfl
  eqv xs ys := by
    show PyData.eqv (.list (xs.map p)) (.list (ys.map p)) = _
    unfold PyData.eqv
    exact e.eqvs xs ys
  lay xs := by
    show (PyData.list (xs.map p)).canLay0 = true
    unfold PyData.canLay0
    exact e.lays xs
  dep xs := by
    show (PyData.list (xs.map p)).depth ≤ k + 1
    unfold PyData.depth
    have := e.deps xs
    omega
theorem Enc.tup (e : Enc f p k) : Enc (fun xs : List α => D.tup (xs.map f)) (fun xs => PyData.tuple (xs.map p)) (k + 1) where
  to xs := by
    show (toPs (xs.map f)).map PyData.tuple = _
    rw [e.tos]
    rfl
  eqv xs ys := by
    show PyData.eqv (.tuple (xs.map p)) (.tuple (ys.map p)) = _
    unfold PyData.eqv
    exact e.eqvs xs ys
  lay xs := by
    show (PyData.tuple (xs.map p)).canLay0 = true
    unfold PyData.canLay0
    exact e.lays xs
  dep xs := by
    show (PyData.tuple (xs.map p)).depth ≤ k + 1
    unfold PyData.depth
    have := e.deps xs
    omega
theorem Enc.shaped (e : Enc f p k) (hk : k ≤ 64) (a : α) : SeqAt.shaped (p a) = true := by
  unfold SeqAt.shaped
  rw [e.lay, decide_eq_true (Nat.le_trans (e.dep a) hk)]
  rfl
theorem Enc.small (e : Enc f p k) (hk : k ≤ 60) (a : α) : small (p a) = true := by
  unfold Zk.small
  rw [e.lay, decide_eq_true (Nat.le_trans (e.dep a) hk)]
  rfl
theorem Enc.eqB (e : Enc f p k) (hk : k ≤ 64) (a b : α) : eqB (f a) (f b) = some (decide (a = b)) := by
  unfold Zk.eqB
  rw [e.to, e.to, Option.bind_some, Option.bind_some, e.shaped hk, e.shaped hk, e.eqv]
  rfl
theorem Enc.eqD (e : Enc f p k) (hk : k ≤ 64) (a b : α) : eqD (f a) (f b) = some (.bl (decide (a = b))) := by
  unfold Zk.eqD
  rw [e.eqB hk]
  rfl
theorem Enc.neD (e : Enc f p k) (hk : k ≤ 64) (a b : α) : neD (f a) (f b) = some (.bl (!decide (a = b))) := by
  unfold Zk.neD
  rw [e.eqB hk]
  rfl
theorem Enc.any (e : Enc f p k) (xs : List α) (a : α) : ((xs.map p).any fun z => PyData.eqv z (p a)) = decide (a ∈ xs) := by
  rw [List.any_map]
  have e1 : ((fun z => PyData.eqv z (p a)) ∘ p) = fun b => decide (b = a) := by
    funext b
    exact e.eqv b a
  rw [e1, Bool.eq_iff_iff, List.any_eq_true, decide_eq_true_iff]
  exact ⟨fun ⟨b, h1, h2⟩ => of_decide_eq_true h2 ▸ h1, fun h => ⟨a, h, decide_eq_true rfl⟩⟩
theorem Enc.inL (e : Enc f p k) (hk : k ≤ 60) (a : α) (xs : List α) [di : Decidable (a ∈ xs)] : inPD (f a) (.lst (xs.map f)) = some (.bl (decide (a ∈ xs))) := by
  show ((toP (f a)).bind fun d => (toPs (xs.map f)).bind fun ps => if (Zk.small d && PyData.canLayAll0 ps) = true then some (ps.any fun z => PyData.eqv z d) else none).map D.bl = _
  rw [e.to, e.tos, Option.bind_some, Option.bind_some, e.small hk, e.lays, e.any]
  exact congrArg (fun b => some (D.bl b)) (decide_eq_decide.mpr Iff.rfl)
theorem Enc.ninL (e : Enc f p k) (hk : k ≤ 60) (a : α) (xs : List α) [di : Decidable (a ∈ xs)] : ninPD (f a) (.lst (xs.map f)) = some (.bl (!decide (a ∈ xs))) := by
  show ((toP (f a)).bind fun d => (toPs (xs.map f)).bind fun ps => if (Zk.small d && PyData.canLayAll0 ps) = true then some (ps.any fun z => PyData.eqv z d) else none).map (fun b => D.bl (!b)) = _
  rw [e.to, e.tos, Option.bind_some, Option.bind_some, e.small hk, e.lays, e.any]
  exact congrArg (fun b => some (D.bl (!b))) (decide_eq_decide.mpr Iff.rfl)
theorem Enc.count (e : Enc f p k) (hk : k ≤ 60) (a : α) (xs : List α) [BEq α] [LawfulBEq α] : countD (.lst (xs.map f)) (f a) = some (.int ((xs.count a : Nat) : Int)) := by
  show ((toP (f a)).bind fun d => (toPs (xs.map f)).bind fun ps => if (Zk.small d && PyData.canLayAll0 ps) = true then some (D.int ((ps.countP fun z => PyData.eqv z d : Nat) : Int)) else none) = _
  rw [e.to, e.tos, Option.bind_some, Option.bind_some, e.small hk, e.lays, List.countP_map]
  have e1 : ((fun z => PyData.eqv z (p a)) ∘ p) = fun b => b == a := by
    funext b
    show PyData.eqv (p b) (p a) = _
    rw [e.eqv]
    rw [Bool.eq_iff_iff]; simp
  rw [e1]
  rfl
end
theorem encInt : Enc D.int PyData.int 1 where
  to _ := rfl
  eqv a b := by simp only [PyData.eqv]; rw [Bool.eq_iff_iff]; simp
  lay _ := rfl
  dep _ := by simp [PyData.depth]
/-- a pair of two things -/
theorem Enc.two {α β : Type} [DecidableEq α] [DecidableEq β] {f : α → D} {p : α → PyData} {f' : β → D} {p' : β → PyData} {k : Nat} (e : Enc f p k) (e' : Enc f' p' k) :
    Enc (fun x : α × β => D.tup [f x.1, f' x.2]) (fun x => PyData.tuple [p x.1, p' x.2]) (k + 1) where
  to x := by
    show ((toP (f x.1)).bind fun q => ((toP (f' x.2)).bind fun q' => some [q']).map (q :: ·)).map PyData.tuple = _
    rw [e.to, e'.to]
    rfl
  eqv x y := by
    show PyData.eqv (.tuple [p x.1, p' x.2]) (.tuple [p y.1, p' y.2]) = _
    simp only [PyData.eqv, PyData.eqvAll, e.eqv, e'.eqv]
    obtain ⟨a, b⟩ := x
    obtain ⟨c, d⟩ := y
    by_cases h : a = c <;> by_cases h2 : b = d <;> simp [h, h2]
  lay x := by
    show (PyData.tuple [p x.1, p' x.2]).canLay0 = true
    simp only [PyData.canLay0, PyData.canLayAll0, e.lay, e'.lay]
    rfl
  dep x := by
    show (PyData.tuple [p x.1, p' x.2]).depth ≤ k + 1
    simp only [PyData.depth, PyData.depthAll]
    have h1 := e.dep x.1
    have h2 := e'.dep x.2
    omega
/-- a thing or None -/
def optD {α : Type} (f : α → D) : Option α → D
  | none => .non
  | some a => f a
def optP {α : Type} (p : α → PyData) : Option α → PyData
  | none => .none
  | some a => p a
theorem Enc.opt {α : Type} [DecidableEq α] {f : α → D} {p : α → PyData} {k : Nat} (e : Enc f p k) (h1 : ∀ a, PyData.eqv .none (p a) = false) (h2 : ∀ a, PyData.eqv (p a) .none = false) : Enc (optD f) (optP p) (k + 1) where
  to x := by cases x with | none => rfl | some a => exact e.to a
  eqv x y := by
    cases x with
    | none => cases y with
      | none => simp [optP, PyData.eqv]
      | some b => exact (h1 b).trans (by simp)
    | some a => cases y with
      | none => exact (h2 a).trans (by simp)
      | some b => show PyData.eqv (p a) (p b) = _; rw [e.eqv]; simp
  lay x := by cases x with | none => rfl | some a => exact e.lay a
  dep x := by
    cases x with
    | none => simp [optP, PyData.depth]
    | some a => exact Nat.le_succ_of_le (e.dep a)
theorem Enc.mono {α : Type} [DecidableEq α] {f : α → D} {p : α → PyData} {k : Nat} (e : Enc f p k) {m : Nat} (h : k ≤ m) : Enc f p m := ⟨e.to, e.eqv, e.lay, fun a => Nat.le_trans (e.dep a) h⟩
/-- a comprehension over values laid out -/
theorem lc_filt {α : Type} {tg : DGF} {tt : DTF} {te : DF} {g : Gm} (f : α → D) (T : α → Bool) (F : α → D) : ∀ {xs : List α}, (∀ a, a ∈ xs → ∃ g1, tg (f a) g = some g1 ∧ tt g1 = some (T a) ∧ (T a = true → te g1 = some (F a))) → lcL tg tt te g (xs.map f) = some ((xs.filter T).map F)
  | [], _ => rfl
  | a :: xs, h => by
    obtain ⟨g1, h1, h2, h3⟩ := h a List.mem_cons_self
    have ih := lc_filt (tg := tg) (tt := tt) (te := te) (g := g) f T F (xs := xs) fun d hd => h d (List.mem_cons_of_mem _ hd)
    show lcL tg tt te g (f a :: xs.map f) = _
    unfold lcL
    rw [h1, Option.bind_some, h2, Option.bind_some, ih, List.filter_cons]
    cases ht : T a with
    | true => simp [h3 ht]
    | false => simp
end Zk
end

section
set_option Elab.async false
set_option linter.all false
set_option maxRecDepth 100000
set_option maxHeartbeats 2000000
/-! Items that differ, whatever they are. -/
namespace Zc
open PySem L2 Zk
instance {n : Nat} {h : List Int} : Decidable (Hold n h) := by unfold Hold; exact inferInstance
theorem asBls_map {α : Type} (xs : List α) (T : α → Bool) : asBls (xs.map fun x => D.bl (T x)) = some (xs.map T) := by
  induction xs with
  | nil => rfl
  | cons n ns ih => show (asBls (ns.map _)).map (T n :: ·) = _; rw [ih]; rfl
end Zc
end

section
set_option Elab.async false
set_option linter.all false
set_option maxRecDepth 100000
set_option autoImplicit false
set_option maxHeartbeats 2000000
/-! Total words for items, and steps that leave less to say. -/
namespace Zk
open PySem L2
/-- the item at a place -/
def at_ {α : Type} [Inhabited α] (xs : List α) (k : Int) : α := xs[k.toNat]?.getD default
section
variable {α : Type} [Inhabited α]
theorem at_eq {xs : List α} {k : Int} {m : Nat} {a : α} (e : k = (m : Int)) (h : xs[m]? = some a) : at_ xs k = a := by
  unfold at_
  rw [e, Int.toNat_natCast, h]; rfl
theorem at_get {xs : List α} {k : Int} (h0 : 0 ≤ k) (h : k < (xs.length : Nat)) : xs[k.toNat]? = some (at_ xs k) := by
  have hm : k.toNat < xs.length := by omega
  unfold at_
  rw [List.getElem?_eq_getElem hm]; rfl
theorem at_mem {xs : List α} {k : Int} (h0 : 0 ≤ k) (h : k < (xs.length : Nat)) : at_ xs k ∈ xs := List.mem_of_getElem? (at_get h0 h)
theorem ix_at {f : α → D} {xs : List α} {k : Int} (h0 : 0 ≤ k) (h : k < (xs.length : Nat)) : ixD (.lst (xs.map f)) (.int k) = some (f (at_ xs k)) := by
  have e := ix_l (ds := xs.map f) (m := k.toNat) (d := f (at_ xs k)) (by rw [List.getElem?_map, at_get h0 h]; rfl)
  rw [show ((k.toNat : Nat) : Int) = k by omega] at e
  exact e
theorem ix_atT {f : α → D} {xs : List α} {k : Int} (h0 : 0 ≤ k) (h : k < (xs.length : Nat)) : ixD (.tup (xs.map f)) (.int k) = some (f (at_ xs k)) := by
  have e := ix_t (ds := xs.map f) (m := k.toNat) (d := f (at_ xs k)) (by rw [List.getElem?_map, at_get h0 h]; rfl)
  rw [show ((k.toNat : Nat) : Int) = k by omega] at e
  exact e
end
theorem ix_atI {xs : List Int} {k : Int} (h0 : 0 ≤ k) (h : k < (xs.length : Nat)) : ixD (.lst (iL xs)) (.int k) = some (.int (at_ xs k)) := ix_at h0 h
theorem ix_atIT {xs : List Int} {k : Int} (h0 : 0 ≤ k) (h : k < (xs.length : Nat)) : ixD (.tup (iL xs)) (.int k) = some (.int (at_ xs k)) := ix_atT h0 h
theorem ix_atR {xs : List (List Int)} {k : Int} (h0 : 0 ≤ k) (h : k < (xs.length : Nat)) : ixD (.lst (rowsL xs)) (.int k) = some (.lst (iL (at_ xs k))) := ix_at h0 h
theorem ix_atRT {xs : List (List Int)} {k : Int} (h0 : 0 ≤ k) (h : k < (xs.length : Nat)) : ixD (.tup (rowsT xs)) (.int k) = some (.tup (iL (at_ xs k))) := ix_atT h0 h
theorem ix_lit2 {x0 x1 k : Int} (h0 : 0 ≤ k) (h : k < 2) : ixD (.tup [.int x0, .int x1]) (.int k) = some (.int (at_ [x0, x1] k)) := ix_atIT (xs := [x0, x1]) h0 h
theorem ix_lit3 {x0 x1 x2 k : Int} (h0 : 0 ≤ k) (h : k < 3) : ixD (.tup [.int x0, .int x1, .int x2]) (.int k) = some (.int (at_ [x0, x1, x2] k)) := ix_atIT (xs := [x0, x1, x2]) h0 h
theorem ix_lit4 {x0 x1 x2 x3 k : Int} (h0 : 0 ≤ k) (h : k < 4) : ixD (.tup [.int x0, .int x1, .int x2, .int x3]) (.int k) = some (.int (at_ [x0, x1, x2, x3] k)) := ix_atIT (xs := [x0, x1, x2, x3]) h0 h
theorem ix_lit5 {x0 x1 x2 x3 x4 k : Int} (h0 : 0 ≤ k) (h : k < 5) : ixD (.tup [.int x0, .int x1, .int x2, .int x3, .int x4]) (.int k) = some (.int (at_ [x0, x1, x2, x3, x4] k)) := ix_atIT (xs := [x0, x1, x2, x3, x4]) h0 h
theorem ix_lit6 {x0 x1 x2 x3 x4 x5 k : Int} (h0 : 0 ≤ k) (h : k < 6) : ixD (.tup [.int x0, .int x1, .int x2, .int x3, .int x4, .int x5]) (.int k) = some (.int (at_ [x0, x1, x2, x3, x4, x5] k)) := ix_atIT (xs := [x0, x1, x2, x3, x4, x5]) h0 h
theorem ix_lit7 {x0 x1 x2 x3 x4 x5 x6 k : Int} (h0 : 0 ≤ k) (h : k < 7) : ixD (.tup [.int x0, .int x1, .int x2, .int x3, .int x4, .int x5, .int x6]) (.int k) = some (.int (at_ [x0, x1, x2, x3, x4, x5, x6] k)) := ix_atIT (xs := [x0, x1, x2, x3, x4, x5, x6]) h0 h
theorem ix_lit8 {x0 x1 x2 x3 x4 x5 x6 x7 k : Int} (h0 : 0 ≤ k) (h : k < 8) : ixD (.tup [.int x0, .int x1, .int x2, .int x3, .int x4, .int x5, .int x6, .int x7]) (.int k) = some (.int (at_ [x0, x1, x2, x3, x4, x5, x6, x7] k)) := ix_atIT (xs := [x0, x1, x2, x3, x4, x5, x6, x7]) h0 h
theorem ix_lit9 {x0 x1 x2 x3 x4 x5 x6 x7 x8 k : Int} (h0 : 0 ≤ k) (h : k < 9) : ixD (.tup [.int x0, .int x1, .int x2, .int x3, .int x4, .int x5, .int x6, .int x7, .int x8]) (.int k) = some (.int (at_ [x0, x1, x2, x3, x4, x5, x6, x7, x8] k)) := ix_atIT (xs := [x0, x1, x2, x3, x4, x5, x6, x7, x8]) h0 h
theorem ix_lit10 {x0 x1 x2 x3 x4 x5 x6 x7 x8 x9 k : Int} (h0 : 0 ≤ k) (h : k < 10) : ixD (.tup [.int x0, .int x1, .int x2, .int x3, .int x4, .int x5, .int x6, .int x7, .int x8, .int x9]) (.int k) = some (.int (at_ [x0, x1, x2, x3, x4, x5, x6, x7, x8, x9] k)) := ix_atIT (xs := [x0, x1, x2, x3, x4, x5, x6, x7, x8, x9]) h0 h
theorem ix_lit11 {x0 x1 x2 x3 x4 x5 x6 x7 x8 x9 x10 k : Int} (h0 : 0 ≤ k) (h : k < 11) : ixD (.tup [.int x0, .int x1, .int x2, .int x3, .int x4, .int x5, .int x6, .int x7, .int x8, .int x9, .int x10]) (.int k) = some (.int (at_ [x0, x1, x2, x3, x4, x5, x6, x7, x8, x9, x10] k)) := ix_atIT (xs := [x0, x1, x2, x3, x4, x5, x6, x7, x8, x9, x10]) h0 h
theorem ix_lit12 {x0 x1 x2 x3 x4 x5 x6 x7 x8 x9 x10 x11 k : Int} (h0 : 0 ≤ k) (h : k < 12) : ixD (.tup [.int x0, .int x1, .int x2, .int x3, .int x4, .int x5, .int x6, .int x7, .int x8, .int x9, .int x10, .int x11]) (.int k) = some (.int (at_ [x0, x1, x2, x3, x4, x5, x6, x7, x8, x9, x10, x11] k)) := ix_atIT (xs := [x0, x1, x2, x3, x4, x5, x6, x7, x8, x9, x10, x11]) h0 h
theorem ix_lit13 {x0 x1 x2 x3 x4 x5 x6 x7 x8 x9 x10 x11 x12 k : Int} (h0 : 0 ≤ k) (h : k < 13) : ixD (.tup [.int x0, .int x1, .int x2, .int x3, .int x4, .int x5, .int x6, .int x7, .int x8, .int x9, .int x10, .int x11, .int x12]) (.int k) = some (.int (at_ [x0, x1, x2, x3, x4, x5, x6, x7, x8, x9, x10, x11, x12] k)) := ix_atIT (xs := [x0, x1, x2, x3, x4, x5, x6, x7, x8, x9, x10, x11, x12]) h0 h
theorem ix_lit14 {x0 x1 x2 x3 x4 x5 x6 x7 x8 x9 x10 x11 x12 x13 k : Int} (h0 : 0 ≤ k) (h : k < 14) : ixD (.tup [.int x0, .int x1, .int x2, .int x3, .int x4, .int x5, .int x6, .int x7, .int x8, .int x9, .int x10, .int x11, .int x12, .int x13]) (.int k) = some (.int (at_ [x0, x1, x2, x3, x4, x5, x6, x7, x8, x9, x10, x11, x12, x13] k)) := ix_atIT (xs := [x0, x1, x2, x3, x4, x5, x6, x7, x8, x9, x10, x11, x12, x13]) h0 h
theorem ix_lit15 {x0 x1 x2 x3 x4 x5 x6 x7 x8 x9 x10 x11 x12 x13 x14 k : Int} (h0 : 0 ≤ k) (h : k < 15) : ixD (.tup [.int x0, .int x1, .int x2, .int x3, .int x4, .int x5, .int x6, .int x7, .int x8, .int x9, .int x10, .int x11, .int x12, .int x13, .int x14]) (.int k) = some (.int (at_ [x0, x1, x2, x3, x4, x5, x6, x7, x8, x9, x10, x11, x12, x13, x14] k)) := ix_atIT (xs := [x0, x1, x2, x3, x4, x5, x6, x7, x8, x9, x10, x11, x12, x13, x14]) h0 h
theorem Below.at {ds sizes : List Int} (h : Below ds sizes) {k : Int} (s : Int) (h0 : 0 ≤ k) (h1 : sizes[k.toNat]? = some s) : 0 ≤ at_ ds k ∧ at_ ds k < s := by
  obtain ⟨d, e, h2⟩ := h.get h1
  rw [show at_ ds k = d from at_eq (m := k.toNat) (by omega) e]
  exact h2
theorem Below.len {ds sizes : List Int} (h : Below ds sizes) : ds.length = sizes.length := h.1
theorem apR1_any {k : Int} (h : k ≤ 1000000 ∧ -1000000 ≤ k) : apR1 (some [.int k]) = some (rngL 0 k.toNat) := if_pos h
/-! ### steps -/
section
variable {s u q : SF} {g : Gm} {C : Option Out → Prop}
/-- a loop over things laid out -/
theorem loop_each {α : Type} {f : DGF} (enc : α → D) (xs : List α) (I : Nat → Gm → Prop) (h0 : I 0 g) (hs : ∀ (i : Nat) (a : α) (g : Gm), xs[i]? = some a → I i g → ∃ g1, f (enc a) g = some g1 ∧ StepTo (s g1) (I (i + 1)))
    (k : ∀ g', I xs.length g' → C (q g')) : C (apSeq (loopD f s (xs.map enc) g) q) :=
  loop_then I h0 (fun i d g hd hI => by
    rw [List.getElem?_map] at hd
    cases e : xs[i]? with
    | none => rw [e] at hd; cases hd
    | some a => rw [e] at hd; cases hd; exact hs i a g e hI) fun g' h => k g' (by rw [List.length_map] at h; exact h)
end
/-! ### comprehensions -/
section
variable {it : DIF} {tg : DGF} {tt : DTF} {te : DF} {vs : List Nat} {g : Gm}
theorem dLc_filt {α : Type} (f : α → D) {xs : List α} {T : α → Bool} {F : α → D} (hf : free g vs = true) (hi : it g = some (xs.map f)) (hl : xs.length ≤ 100000)
    (h : ∀ a, a ∈ xs → ∃ g1, tg (f a) (wipeG g vs) = some g1 ∧ tt g1 = some (T a) ∧ (T a = true → te g1 = some (F a))) : dLc it tg tt te vs g = some (.lst ((xs.filter T).map F)) :=
  dLc_eq hf hi (by rw [List.length_map]; exact hl) (lc_filt f T F h)
theorem dLc_map {α : Type} (f : α → D) {xs : List α} {F : α → D} (hf : free g vs = true) (hi : it g = some (xs.map f)) (hl : xs.length ≤ 100000)
    (h : ∀ a, a ∈ xs → ∃ g1, tg (f a) (wipeG g vs) = some g1 ∧ te g1 = some (F a)) : dLc it tg dYes te vs g = some (.lst (xs.map F)) := by
  have e := dLc_filt (tt := dYes) f (T := fun _ => true) (F := F) hf hi hl (fun a ha => by obtain ⟨g1, h1, h2⟩ := h a ha; exact ⟨g1, h1, rfl, fun _ => h2⟩)
  rw [List.filter_eq_self.mpr fun _ _ => rfl] at e
  exact e
theorem rngL_map (n : Nat) : rngL 0 n = (List.range n).map fun i => D.int ((i : Nat) : Int) := by
  unfold rngL
  refine List.map_congr_left fun i _ => ?_
  rw [Int.zero_add]
theorem dLc_rngM {n : Nat} {F : Nat → D} (hf : free g vs = true) (hi : it g = some (rngL 0 n)) (hl : n ≤ 100000)
    (h : ∀ i, i < n → ∃ g1, tg (.int ((i : Nat) : Int)) (wipeG g vs) = some g1 ∧ te g1 = some (F i)) : dLc it tg dYes te vs g = some (.lst ((List.range n).map F)) :=
  dLc_map (fun i : Nat => D.int ((i : Nat) : Int)) hf (by rw [hi, rngL_map]) (by rw [List.length_range]; exact hl) fun i hi => h i (List.mem_range.mp hi)
end
theorem frz_wo {d : D} : (Wd.o d).frz = .v d := rfl
theorem frz_wv {d : D} : (Wd.v d).frz = .v d := rfl
theorem frz_kk {k : Option Wd} {g : Gm} : frzAll (k :: g) = k.map Wd.frz :: frzAll g := rfl
theorem wipeG_nil {g : Gm} : wipeG g [] = g := rfl
theorem wipeG_cons {g : Gm} {v : Nat} {vs : List Nat} : wipeG g (v :: vs) = (wipeG g vs).set v none := rfl
/-- ints of a range, some of them -/
def pickI (n : Nat) (T : Nat → Bool) : List Int := ((List.range n).filter T).map fun i => ((i : Nat) : Int)
theorem pickI_asc (n : Nat) (T : Nat → Bool) : Asc n (pickI n T) := by
  refine Asc.sub ?_
  unfold pickI rngI
  have : (List.range n).map (fun i => (0 : Int) + ((i : Nat) : Int)) = (List.range n).map fun i => ((i : Nat) : Int) := List.map_congr_left fun i _ => by rw [Int.zero_add]
  rw [this]
  exact List.Sublist.map _ (List.filter_sublist)
theorem pickI_mem {n : Nat} {T : Nat → Bool} {k : Int} : k ∈ pickI n T ↔ ∃ i : Nat, k = (i : Int) ∧ i < n ∧ T i = true := by
  unfold pickI
  rw [List.mem_map]
  constructor
  · rintro ⟨i, hi, rfl⟩
    rw [List.mem_filter, List.mem_range] at hi
    exact ⟨i, rfl, hi.1, hi.2⟩
  · rintro ⟨i, rfl, h1, h2⟩
    exact ⟨i, List.mem_filter.mpr ⟨List.mem_range.mpr h1, h2⟩, rfl⟩
/-! ### and, or, chains without cases -/
def orB (k : Bool) (o : Option Bool) : Option Bool := if k then some true else o
def andB (k : Bool) (o : Option Bool) : Option Bool := if k then o else some false
def orV (k : Bool) (o : Option D) : Option D := if k then some (.bl true) else o
def andV (k : Bool) (o : Option D) : Option D := if k then o else some (.bl false)
theorem orB_s {k k' : Bool} : orB k (some k') = some (k || k') := by cases k <;> rfl
theorem orB_t {o : Option Bool} : orB true o = some true := rfl
theorem orB_f {o : Option Bool} : orB false o = o := rfl
theorem andB_s {k k' : Bool} : andB k (some k') = some (k && k') := by cases k <;> rfl
theorem andB_t {o : Option Bool} : andB true o = o := rfl
theorem andB_f {o : Option Bool} : andB false o = some false := rfl
theorem orV_s {k k' : Bool} : orV k (some (.bl k')) = some (.bl (k || k')) := by cases k <;> rfl
theorem orV_t {o : Option D} : orV true o = some (.bl true) := rfl
theorem orV_f {o : Option D} : orV false o = o := rfl
theorem andV_s {k k' : Bool} : andV k (some (.bl k')) = some (.bl (k && k')) := by cases k <;> rfl
theorem andV_t {o : Option D} : andV true o = o := rfl
theorem andV_f {o : Option D} : andV false o = some (.bl false) := rfl
theorem apOr_b {k : Bool} {u : DTF} {g : Gm} : apOr (some k) u g = orB k (u g) := by cases k <;> rfl
theorem apAnd_b {k : Bool} {u : DTF} {g : Gm} : apAnd (some k) u g = andB k (u g) := by cases k <;> rfl
theorem apOrV_b {k : Bool} {u : DF} {g : Gm} : apOrV (some (.bl k)) u g = orV k (u g) := by cases k <;> rfl
theorem apAndV_b {k : Bool} {u : DF} {g : Gm} : apAndV (some (.bl k)) u g = andV k (u g) := by cases k <;> rfl
theorem apCh_b {k : Bool} {f' : D → D → Option D} {y : D} {c : DF} {g : Gm} : apCh f' y c g (some (.bl k)) = andV k (ap2 f' (some y) (c g)) := by cases k <;> rfl
def apPkO : Option D → Option D := fun x => match x with
  | some (.lst ds) => if ds.all D.flat then some (.lst ds) else none
  | _ => none
theorem peekO_a {a : DF} {g : Gm} : peekO a g = apPkO (a (frzAll g)) := rfl
theorem apPkO_i {xs : List Int} : apPkO (some (.lst (iL xs))) = some (.lst (iL xs)) := by
  unfold apPkO iL
  exact if_pos (by rw [List.all_map]; exact List.all_eq_true.mpr fun _ _ => rfl)
end Zk
end

section
set_option Elab.async false
set_option linter.all false
set_option maxRecDepth 100000
set_option maxHeartbeats 2000000
/-! The laws' own functions on pairs: rooms, counts, held pairs, dealings. -/
namespace Zc
open PySem L2 Zk
abbrev Pr := Int × Int
def prD (x : Pr) : D := .tup [.int x.1, .int x.2]
abbrev opD : Option Pr → D := optD prD
def stD (s : Int × Pr) : D := .tup [.int s.1, prD s.2]
def prP (x : Pr) : PyData := .tuple [.int x.1, .int x.2]
abbrev opP : Option Pr → PyData := optP prP
theorem encPr : Enc prD prP 2 := encInt.two encInt
theorem encOp : Enc opD opP 3 := encPr.opt (fun a => by simp [prP, PyData.eqv]) (fun a => by simp [prP, PyData.eqv])
theorem encSt : Enc stD (fun s => .tuple [.int s.1, prP s.2]) 3 := (encInt.mono (by decide)).two encPr
theorem eq_op_op (a b : Option Pr) : eqD (opD a) (opD b) = some (.bl (decide (a = b))) := encOp.eqD (by decide) a b
theorem eq_op_pr (a : Option Pr) (q : Pr) : eqD (opD a) (prD q) = some (.bl (decide (a = some q))) := encOp.eqD (by decide) a (some q)
theorem eq_pr_op (a : Option Pr) (q : Pr) : eqD (prD q) (opD a) = some (.bl (decide (some q = a))) := encOp.eqD (by decide) (some q) a
theorem eq_pr_pr (p q : Pr) : eqD (prD p) (prD q) = some (.bl (decide (p = q))) := encPr.eqD (by decide) p q
theorem ne_op_op (a b : Option Pr) : neD (opD a) (opD b) = some (.bl (!decide (a = b))) := encOp.neD (by decide) a b
theorem ne_op_pr (a : Option Pr) (q : Pr) : neD (opD a) (prD q) = some (.bl (!decide (a = some q))) := encOp.neD (by decide) a (some q)
theorem ne_pr_op (a : Option Pr) (q : Pr) : neD (prD q) (opD a) = some (.bl (!decide (some q = a))) := encOp.neD (by decide) (some q) a
theorem ne_pr_pr (p q : Pr) : neD (prD p) (prD q) = some (.bl (!decide (p = q))) := encPr.neD (by decide) p q
theorem isnt_op (o : Option Pr) : isntD (opD o) .non = some (.bl (!decide (o = none))) := by cases o <;> rfl
theorem is_op (o : Option Pr) : isD (opD o) .non = some (.bl (decide (o = none))) := by cases o <;> rfl
theorem prD_eq (a b : Int) : D.tup [.int a, .int b] = prD (a, b) := rfl
theorem pr_0 (q : Pr) : ixD (prD q) (.int 0) = some (.int q.1) := rfl
theorem pr_1 (q : Pr) : ixD (prD q) (.int 1) = some (.int q.2) := rfl
theorem st_0 (s : Int × Pr) : ixD (stD s) (.int 0) = some (.int s.1) := rfl
theorem st_1 (s : Int × Pr) : ixD (stD s) (.int 1) = some (prD s.2) := rfl
theorem inP_pr (q : Pr) (xs : List Pr) : inPD (prD q) (.lst (xs.map prD)) = some (.bl (decide (q ∈ xs))) := encPr.inL (by decide) q xs
theorem ninP_pr (q : Pr) (xs : List Pr) : ninPD (prD q) (.lst (xs.map prD)) = some (.bl (!decide (q ∈ xs))) := encPr.ninL (by decide) q xs
theorem nin_l {ns : List Int} {k : Int} : ninD (.int k) (.lst (iL ns)) = some (.bl (!ns.contains k)) := by
  show (if ((D.int k).flat4 && (iL ns).all D.flat4) = true then some ((iL ns).any fun z => eqF z (.int k)) else none).map (fun b => D.bl (!b)) = _
  rw [flat4_iL, any_iL]
  rfl
theorem isi_prt (q : Pr) : isiD [prD q, .ty "tuple"] = some (.bl true) := rfl
theorem len_pr (q : Pr) : lenD [prD q] = some (.int 2) := rfl
theorem op_some (q : Pr) : opD (some q) = prD q := rfl
def roomOf (caps : List Int) (q : Pr) : Int := if Zc.capAt caps q.2 < Zc.capAt caps q.1 then Zc.capAt caps q.2 else Zc.capAt caps q.1
def InR (caps : List Int) (q : Pr) : Prop := (0 ≤ q.1 ∧ q.1 < (caps.length : Nat)) ∧ (0 ≤ q.2 ∧ q.2 < (caps.length : Nat))
/-- the pairs of a row that have room -/
def heldP (caps : List Int) : List Int → List Pr
  | [] => []
  | a :: r => ((r.filter fun b => decide (0 < roomOf caps (a, b))).map fun b => (a, b)) ++ heldP caps r
theorem heldP_mem {caps : List Int} {n : Nat} : ∀ {h : List Int}, Asc n h → ∀ q : Pr, q ∈ heldP caps h ↔ q.1 ∈ h ∧ q.2 ∈ h ∧ q.1 < q.2 ∧ 0 < roomOf caps q
  | [], _, q => by simp [heldP]
  | a :: r, ha, q => by
    obtain ⟨x, y⟩ := q
    have h2 := List.pairwise_cons.mp ha.1
    have ih := heldP_mem (caps := caps) (n := n) (h := r) ⟨h2.2, fun k hk => ha.2 k (List.mem_cons_of_mem _ hk)⟩ (x, y)
    unfold heldP
    rw [List.mem_append, ih, List.mem_map]
    simp only [List.mem_filter, decide_eq_true_eq, List.mem_cons, Prod.mk.injEq]
    constructor
    · rintro (⟨b, ⟨hb, hp⟩, rfl, rfl⟩ | ⟨h1, h3, h4, h5⟩)
      · exact ⟨.inl rfl, .inr hb, h2.1 _ hb, hp⟩
      · exact ⟨.inr h1, .inr h3, h4, h5⟩
    · rintro ⟨h1 | h1, h3 | h3, h4, h5⟩
      · subst h1; subst h3; omega
      · subst h1; exact .inl ⟨y, ⟨h3, h5⟩, rfl, rfl⟩
      · subst h3; have := h2.1 x h1; omega
      · exact .inr ⟨h1, h3, h4, h5⟩
theorem held_in {caps h : List Int} (ha : Asc caps.length h) {q : Pr} (hq : q ∈ heldP caps h) : InR caps q := by
  have e := (heldP_mem ha q).mp hq
  exact ⟨ha.2 _ e.1, ha.2 _ e.2.1⟩
end Zc
end

section
set_option Elab.async false
set_option linter.all false
set_option maxRecDepth 100000
set_option maxHeartbeats 2000000
/-! Dealings, as the laws judge them. -/
namespace Zc
open PySem L2 Zk
/-- a row lies below another by its pieces -/
structure IsDeal (caps : List Int) (hs : List (List Int)) (dl : List (Option Pr)) : Prop where
  len : dl.length = hs.length
  held : ∀ (p : Nat) (q : Pr), dl[p]? = some (some q) → q.1 < q.2 ∧ q.1 ∈ at_ hs p ∧ q.2 ∈ at_ hs p
  room : ∀ q : Pr, some q ∈ dl → ((dl.count (some q) : Nat) : Int) ≤ roomOf caps q
end Zc
end

section
set_option Elab.async false
set_option linter.all false
set_option maxRecDepth 100000
set_option maxHeartbeats 2000000
/-! Changing what is laid out; dealings and pools that the laws draw. -/
namespace Zc
open PySem L2 Zk
theorem setI_at {α : Type} {f : α → D} {a : α} {xs : List α} {k : Int} {i : Nat} {g : Gm} {d : D} (e : d = f a) (h0 : 0 ≤ k) (h : k < (xs.length : Nat)) :
    apSetI (some d) (some (.int k)) (some (.lst (xs.map f))) i g = some (.nx (g.set i (some (.o (.lst ((xs.set k.toNat a).map f)))))) := by
  have e1 := apSetI_some (d := d) (ds := xs.map f) (i := i) (g := g) (j := k.toNat) (by rw [List.length_map]; omega)
  rw [show ((k.toNat : Nat) : Int) = k by omega] at e1
  rw [e1, e, List.map_set]
section
variable {k x : Int} {i : Nat} {g : Gm} {q : Pr} {o : Option Pr}
theorem setI_i {xs : List Int} (h0 : 0 ≤ k) (h : k < (xs.length : Nat)) : apSetI (some (.int x)) (some (.int k)) (some (.lst (iL xs))) i g = some (.nx (g.set i (some (.o (.lst (iL (xs.set k.toNat x))))))) := setI_at (f := D.int) rfl h0 h
theorem setI_p {xs : List (Option Pr)} (h0 : 0 ≤ k) (h : k < (xs.length : Nat)) : apSetI (some (prD q)) (some (.int k)) (some (.lst (xs.map opD))) i g = some (.nx (g.set i (some (.o (.lst ((xs.set k.toNat (some q)).map opD)))))) := setI_at (f := opD) rfl h0 h
theorem setI_o {xs : List (Option Pr)} (h0 : 0 ≤ k) (h : k < (xs.length : Nat)) : apSetI (some (opD o)) (some (.int k)) (some (.lst (xs.map opD))) i g = some (.nx (g.set i (some (.o (.lst ((xs.set k.toNat o).map opD)))))) := setI_at (f := opD) rfl h0 h
theorem setI_n {xs : List (Option Pr)} (h0 : 0 ≤ k) (h : k < (xs.length : Nat)) : apSetI (some .non) (some (.int k)) (some (.lst (xs.map opD))) i g = some (.nx (g.set i (some (.o (.lst ((xs.set k.toNat none).map opD)))))) := setI_at (f := opD) (a := none) rfl h0 h
theorem snoc_i {xs : List Int} : iL xs ++ [D.int x] = iL (xs ++ [x]) := by unfold iL; rw [List.map_append]; rfl
theorem snoc_r {hs : List (List Int)} {h : List Int} : rowsL hs ++ [.lst (iL h)] = rowsL (hs ++ [h]) := rowsL_snoc
theorem snoc_p {xs : List (Option Pr)} : xs.map opD ++ [prD q] = (xs ++ [some q]).map opD := by rw [List.map_append]; rfl
theorem snoc_n {xs : List (Option Pr)} : xs.map opD ++ [D.non] = (xs ++ [none]).map opD := by rw [List.map_append]; rfl
theorem snoc_o {xs : List (Option Pr)} : xs.map opD ++ [opD o] = (xs ++ [o]).map opD := by rw [List.map_append]; rfl
theorem snoc_pp {xs : List Pr} : xs.map prD ++ [prD q] = (xs ++ [q]).map prD := by rw [List.map_append]; rfl
theorem snoc_s {xs : List (Int × Pr)} : xs.map stD ++ [D.tup [.int x, prD q]] = (xs ++ [(x, q)]).map stD := by rw [List.map_append]; rfl
theorem eq_ol {xs ys : List (Option Pr)} : eqD (.lst (xs.map opD)) (.lst (ys.map opD)) = some (.bl (decide (xs = ys))) := encOp.lst.eqD (by decide) xs ys
theorem ne_ol {xs ys : List (Option Pr)} : neD (.lst (xs.map opD)) (.lst (ys.map opD)) = some (.bl (!decide (xs = ys))) := encOp.lst.neD (by decide) xs ys
theorem eq_pl {xs ys : List Pr} : eqD (.lst (xs.map prD)) (.lst (ys.map prD)) = some (.bl (decide (xs = ys))) := encPr.lst.eqD (by decide) xs ys
theorem ne_pl {xs ys : List Pr} : neD (.lst (xs.map prD)) (.lst (ys.map prD)) = some (.bl (!decide (xs = ys))) := encPr.lst.neD (by decide) xs ys
theorem eq_sl {xs ys : List (Int × Pr)} : eqD (.lst (xs.map stD)) (.lst (ys.map stD)) = some (.bl (decide (xs = ys))) := encSt.lst.eqD (by decide) xs ys
theorem ne_sl {xs ys : List (Int × Pr)} : neD (.lst (xs.map stD)) (.lst (ys.map stD)) = some (.bl (!decide (xs = ys))) := encSt.lst.neD (by decide) xs ys
theorem eq_il {xs ys : List Int} : eqD (.lst (iL xs)) (.lst (iL ys)) = some (.bl (decide (xs = ys))) := encInt.lst.eqD (by decide) xs ys
theorem ne_il {xs ys : List Int} : neD (.lst (iL xs)) (.lst (iL ys)) = some (.bl (!decide (xs = ys))) := encInt.lst.neD (by decide) xs ys
theorem eq_rl {xs ys : List (List Int)} : eqD (.lst (rowsL xs)) (.lst (rowsL ys)) = some (.bl (decide (xs = ys))) := encInt.lst.lst.eqD (by decide) xs ys
theorem ne_rl {xs ys : List (List Int)} : neD (.lst (rowsL xs)) (.lst (rowsL ys)) = some (.bl (!decide (xs = ys))) := encInt.lst.lst.neD (by decide) xs ys
theorem eq_il1 {xs : List Int} : eqD (.lst (iL xs)) (.lst [.int x]) = some (.bl (decide (xs = [x]))) := eq_il (ys := [x])
theorem isi_bb {b : Bool} : isiD [.bl b, .ty "bool"] = some (.bl true) := rfl
theorem eq_bb {a b : Bool} : eqD (.bl a) (.bl b) = some (.bl (a == b)) := rfl
theorem ne_bb {a b : Bool} : neD (.bl a) (.bl b) = some (.bl (!(a == b))) := rfl
end
/-! ### rich pools -/
/-! ### pools with many seats -/
theorem snoc_get {α : Type} {xs : List α} {x y : α} {p : Nat} (h : (xs ++ [x])[p]? = some y) : xs[p]? = some y ∨ (p = xs.length ∧ y = x) := by
  by_cases hp : p < xs.length
  · rw [List.getElem?_append_left hp] at h; exact .inl h
  · rw [List.getElem?_append_right (by omega)] at h
    by_cases h0 : p - xs.length = 0
    · rw [h0] at h
      cases h
      exact .inr ⟨by omega, rfl⟩
    · rw [List.getElem?_eq_none (by simp; omega)] at h; cases h
end Zc
end

section
set_option Elab.async false
set_option linter.all false
set_option maxRecDepth 100000
set_option maxHeartbeats 2000000
/-! Walks as the laws count them, taken. -/
namespace Zc
open PySem L2 Zk
abbrev Steps := List (Int × Pr)
def StepOk (caps : List Int) (hs : List (List Int)) (dl : List (Option Pr)) (l : Option Pr) (u : List Int) (s : Int × Pr) : Prop :=
  (0 ≤ s.1 ∧ s.1 < (hs.length : Nat)) ∧ s.1 ∉ u ∧ dl[s.1.toNat]? = some l ∧ s.2 ∈ heldP caps (hs[s.1.toNat]?.getD []) ∧ some s.2 ≠ l
instance {caps : List Int} {hs : List (List Int)} {dl : List (Option Pr)} {l : Option Pr} {u : List Int} {s : Int × Pr} : Decidable (StepOk caps hs dl l u s) := by unfold StepOk; exact inferInstance
def walkB (caps : List Int) (hs : List (List Int)) (dl : List (Option Pr)) : Option Pr → List Int → Steps → Option (Option Pr)
  | l, _, [] => some l
  | l, u, s :: r => if StepOk caps hs dl l u s then walkB caps hs dl (some s.2) (u ++ [s.1]) r else none
def dueB (caps : List Int) (hs : List (List Int)) (dl : List (Option Pr)) (sts : Steps) : Bool := match walkB caps hs dl none [] sts with
  | some (some q) => decide (((dl.count (some q) : Nat) : Int) < roomOf caps q)
  | _ => false
structure DealOk (caps : List Int) (hs : List (List Int)) (dl : List (Option Pr)) : Prop where
  len : dl.length = hs.length
  held : ∀ (p : Nat) (q : Pr), dl[p]? = some (some q) → ∃ h, hs[p]? = some h ∧ q ∈ heldP caps h
  room : ∀ q : Pr, dl.count (some q) = 0 ∨ ((dl.count (some q) : Nat) : Int) ≤ roomOf caps q
theorem walkB_yes {caps : List Int} {hs : List (List Int)} {dl : List (Option Pr)} {l : Option Pr} {u : List Int} {s : Int × Pr} {r : Steps} (h : StepOk caps hs dl l u s) : walkB caps hs dl l u (s :: r) = walkB caps hs dl (some s.2) (u ++ [s.1]) r := if_pos h
def one (a b : Option Pr) : Nat := if a = b then 1 else 0
section
variable {caps : List Int} {hs : List (List Int)} {dl : List (Option Pr)}
end
theorem DealOk.of {caps : List Int} {hs : List (List Int)} {m : Nat} (ok : PoolOk caps hs m) {dl : List (Option Pr)} (d : IsDeal caps hs dl) (hr : ∀ q, some q ∈ dl → 0 < roomOf caps q) : DealOk caps hs dl where
  len := d.len
  held p q e := by
    have hp : p < hs.length := by rw [← d.len]; exact (List.getElem?_eq_some_iff.mp e).1
    have h1 := d.held p q e
    have e2 : hs[p]? = some (at_ hs p) := by have := at_get (xs := hs) (k := (p : Int)) (by omega) (by omega); rw [Int.toNat_natCast] at this; exact this
    exact ⟨_, e2, (heldP_mem (ok.asc _ (List.mem_of_getElem? e2)) q).mpr ⟨h1.2.1, h1.2.2, h1.1, hr q (List.mem_of_getElem? e)⟩⟩
  room q := by
    by_cases h : some q ∈ dl
    · exact .inr (d.room q h)
    · exact .inl (List.count_eq_zero.mpr h)
end Zc
end

section
set_option Elab.async false
set_option linter.all false
set_option maxRecDepth 100000
set_option maxHeartbeats 2000000
/-! The search for a walk: its tree, its waiting list, what stands when it fails. -/
namespace Zc
open PySem L2 Zk
/-! ### while -/
/-! ### keys -/
def prK (q : Pr) : List Key := [.inl q.1, .inl q.2]
theorem prK_eq {q r : Pr} : prK q = prK r ↔ q = r := ⟨fun h => by
  unfold prK at h
  injection h with h1 h2
  injection h1 with h1
  injection h2 with h2 h3
  injection h2 with h2
  exact Prod.ext h1 h2, fun h => by rw [h]⟩
abbrev Tk := List (Pr × Int)
def tkD (tk : Tk) : List (List Key × D) := tk.map fun e => (prK e.1, D.int e.2)
theorem getK_tk (q : Pr) : ∀ tk : Tk, getK (tkD tk) (prK q) = (tk.find? fun e => decide (e.1 = q)).map fun e => D.int e.2
  | [] => rfl
  | e :: tk => by
    have ih := getK_tk q tk
    unfold getK tkD at ih ⊢
    rw [List.map_cons, List.find?_cons, List.find?_cons]
    by_cases h : e.1 = q
    · rw [decide_eq_true (show (prK e.1, D.int e.2).1 = prK q by rw [h]), decide_eq_true h]; rfl
    · rw [decide_eq_false (show ¬ (prK e.1, D.int e.2).1 = prK q from fun z => h (prK_eq.mp z)), decide_eq_false h]; exact ih
def keys (tk : Tk) : List Pr := tk.map (·.1)
theorem keys_get {tk : Tk} {j : Nat} {q : Pr} {p : Int} (h : tk[j]? = some (q, p)) : (keys tk)[j]? = some q := by unfold keys; rw [List.getElem?_map, h]; rfl
theorem keys_inj {tk : Tk} (n : (keys tk).Nodup) {j l : Nat} {q : Pr} {p p' : Int} (h : tk[j]? = some (q, p)) (h' : tk[l]? = some (q, p')) : j = l :=
  (List.getElem?_inj (List.getElem?_eq_some_iff.mp (keys_get h)).1 n).mp ((keys_get h).trans (keys_get h').symm)
/-! ### who sits where -/
def seatsOf : Nat → List (Option Pr) → Pr → List Int
  | _, [], _ => []
  | n, o :: r, q => if o = some q then (n : Int) :: seatsOf (n + 1) r q else seatsOf (n + 1) r q
theorem seatsOf_cons (n : Nat) (o : Option Pr) (r : List (Option Pr)) (q : Pr) : seatsOf n (o :: r) q = if o = some q then (n : Int) :: seatsOf (n + 1) r q else seatsOf (n + 1) r q := rfl
theorem seatsOf_mem {q : Pr} {x : Int} : ∀ {dl : List (Option Pr)} {n : Nat}, x ∈ seatsOf n dl q ↔ ∃ p : Nat, x = ((n + p : Nat) : Int) ∧ dl[p]? = some (some q)
  | [], n => by unfold seatsOf; simp
  | o :: r, n => by
    have ih := seatsOf_mem (q := q) (x := x) (dl := r) (n := n + 1)
    have key : (∃ p : Nat, x = ((n + p : Nat) : Int) ∧ (o :: r)[p]? = some (some q)) ↔ (x = (n : Int) ∧ o = some q) ∨ ∃ p : Nat, x = ((n + 1 + p : Nat) : Int) ∧ r[p]? = some (some q) := by
      constructor
      · rintro ⟨p, h1, h2⟩
        cases p with
        | zero => exact .inl ⟨by simpa using h1, by simpa using h2⟩
        | succ p => exact .inr ⟨p, by rw [h1]; congr 1; omega, by simpa using h2⟩
      · rintro (⟨h1, h2⟩ | ⟨p, h1, h2⟩)
        · exact ⟨0, by simpa using h1, by simpa using h2⟩
        · exact ⟨p + 1, by rw [h1]; congr 1; omega, by simpa using h2⟩
    rw [key, ← ih, seatsOf_cons]
    split
    · rename_i h
      rw [List.mem_cons]
      simp [h]
    · rename_i h
      simp [h]
theorem seatsOf_nodup (q : Pr) : ∀ (dl : List (Option Pr)) (n : Nat), (seatsOf n dl q).Nodup
  | [], _ => List.nodup_nil
  | o :: r, n => by
    unfold seatsOf
    split
    · refine List.nodup_cons.mpr ⟨fun h => ?_, seatsOf_nodup q r (n + 1)⟩
      obtain ⟨p, h1, _⟩ := seatsOf_mem.mp h
      omega
    · exact seatsOf_nodup q r (n + 1)
/-- what pieces_by_pair answers -/
structure Seats (dl : List (Option Pr)) (kvs : List (List Key × D)) : Prop where
  at_ : ∀ q, (getK kvs (prK q)).getD (.lst []) = .lst (iL (seatsOf 0 dl q))
end Zc
end

section
set_option Elab.async false
set_option linter.all false
set_option maxRecDepth 100000
set_option maxHeartbeats 2000000
/-! The search for a walk, as the program writes it. -/
namespace Zc
open PySem L2 Zk
/-! ### the program -/
section
variable {g : Gm} {d e : D} {ds es : List D} {i : Nat} {q : Pr} {kvs : List (List Key × D)} {o : Option Wd} {a k : DF}
end
/-! ### the tree -/
section
variable {caps : List Int} {hs : List (List Int)} {dl : List (Option Pr)} {S : List Int}
structure Tree (caps : List Int) (hs : List (List Int)) (dl : List (Option Pr)) (S : List Int) (tk : Tk) : Prop where
  kn : (keys tk).Nodup
  tr : ∀ (j : Nat) (q : Pr) (p : Int), tk[j]? = some (q, p) → ∃ n : Nat, p = n ∧ n < hs.length ∧ q ∈ heldP caps (hs[n]?.getD []) ∧ ((dl[n]? = some none ∧ p ∈ S) ∨ ∃ (l : Nat) (q' : Pr) (p' : Int), dl[n]? = some (some q') ∧ tk[l]? = some (q', p') ∧ l < j)
/-- what walk_to holds: the walk's end wk, behind the pair o -/
structure Sfx (caps : List Int) (hs : List (List Int)) (dl : List (Option Pr)) (S : List Int) (tk : Tk) (q0 : Pr) (i : Nat) (o : Option Pr) (wk : Steps) : Prop where
  ln : wk.length = i
  wb : ∀ u : List Int, (∀ s ∈ wk, s.1 ∉ u) → walkB caps hs dl o u wk = some (some q0)
  hold : Hold hs.length (wk.map (·.1))
  top : o = none → ∃ s, wk.head? = some s ∧ s.1 ∈ S
  mid : ∀ q, o = some q → ∃ (j : Nat) (p : Int), tk[j]? = some (q, p) ∧ j + i < tk.length ∧ ∀ s ∈ wk, ∃ (m : Nat) (q' : Pr) (p' : Int), dl[s.1.toNat]? = some (some q') ∧ tk[m]? = some (q', p') ∧ j ≤ m
theorem Sfx.step {tk : Tk} (T : Tree caps hs dl S tk) {q0 : Pr} {i : Nat} {q : Pr} {wk : Steps} (h : Sfx caps hs dl S tk q0 i (some q) wk) :
    ∃ (j : Nat) (n : Nat) (l : Option Pr), tk[j]? = some (q, (n : Int)) ∧ dl[n]? = some l ∧ n < hs.length ∧ i < tk.length ∧ Sfx caps hs dl S tk q0 (i + 1) l (((n : Int), q) :: wk) := by
  obtain ⟨j, p, hj, hji, hm⟩ := h.mid q rfl
  obtain ⟨n, rfl, hn, hq, hor⟩ := T.tr j q p hj
  have fresh : ∀ l, dl[n]? = some l → (∀ q', l = some q' → ∃ (x : Nat) (p' : Int), tk[x]? = some (q', p') ∧ x < j) → ∀ s ∈ wk, s.1 ≠ (n : Int) := fun l hl hlt s hs' e => by
    obtain ⟨m, q', p', h1, h2, h3⟩ := hm s hs'
    rw [e, Int.toNat_natCast, hl] at h1
    obtain ⟨x, p2, h4, h5⟩ := hlt q' (Option.some.inj h1)
    have := keys_inj T.kn h2 h4
    omega
  have main : ∀ l, dl[n]? = some l → some q ≠ l → (∀ q', l = some q' → ∃ (x : Nat) (p' : Int), tk[x]? = some (q', p') ∧ x < j) → (l = none → (n : Int) ∈ S) → Sfx caps hs dl S tk q0 (i + 1) l (((n : Int), q) :: wk) := fun l hl hne hlt hnone => by
    have fr := fresh l hl hlt
    refine ⟨by rw [List.length_cons, h.ln], fun u hu => ?_, ⟨?_, ?_⟩, fun e => ⟨_, rfl, hnone e⟩, fun q' e => ?_⟩
    · have hok : StepOk caps hs dl l u ((n : Int), q) := ⟨⟨by show (0 : Int) ≤ (n : Int); omega, by show (n : Int) < _; omega⟩, hu _ List.mem_cons_self, by show dl[((n : Nat) : Int).toNat]? = _; rw [Int.toNat_natCast]; exact hl, by show q ∈ heldP caps (hs[((n : Nat) : Int).toNat]?.getD []); rw [Int.toNat_natCast]; exact hq, hne⟩
      rw [walkB_yes hok]
      refine h.wb _ fun s hs' z => ?_
      rcases List.mem_append.mp z with z | z
      · exact hu s (List.mem_cons_of_mem _ hs') z
      · exact fr s hs' (List.mem_singleton.mp z)
    · rw [List.map_cons]
      exact List.nodup_cons.mpr ⟨fun z => by obtain ⟨s, h1, h2⟩ := List.mem_map.mp z; exact fr s h1 h2, h.hold.1⟩
    · intro k hk
      rw [List.map_cons] at hk
      rcases List.mem_cons.mp hk with z | z
      · rw [z]; show 0 ≤ (n : Int) ∧ (n : Int) < _; omega
      · exact h.hold.2 k z
    · obtain ⟨x, p', h4, h5⟩ := hlt q' e
      refine ⟨x, p', h4, by omega, fun s hs' => ?_⟩
      rcases List.mem_cons.mp hs' with z | z
      · rw [z]
        exact ⟨x, q', p', by show dl[((n : Nat) : Int).toNat]? = _; rw [Int.toNat_natCast, hl, e], h4, Nat.le_refl _⟩
      · obtain ⟨m, q2, p2, h1, h2, h3⟩ := hm s z
        exact ⟨m, q2, p2, h1, h2, by omega⟩
  refine ⟨j, n, ?_⟩
  rcases hor with ⟨h1, h2⟩ | ⟨l, q', p', h1, h2, h3⟩
  · exact ⟨none, hj, h1, hn, by omega, main none h1 (by simp) (fun q' z => by cases z) fun _ => h2⟩
  · refine ⟨some q', hj, h1, hn, by omega, main (some q') h1 (fun z => ?_) (fun q2 z => by cases z; exact ⟨l, p', h2, h3⟩) fun z => by cases z⟩
    cases z
    have := keys_inj T.kn hj h2
    omega
theorem Tree.grow {tk : Tk} (T : Tree caps hs dl S tk) {q : Pr} {n : Nat} (hq : q ∉ keys tk) (hn : n < hs.length) (hh : q ∈ heldP caps (hs[n]?.getD [])) (hw : (dl[n]? = some none ∧ (n : Int) ∈ S) ∨ ∃ q', dl[n]? = some (some q') ∧ q' ∈ keys tk) :
    Tree caps hs dl S (tk ++ [(q, (n : Int))]) where
  kn := by
    unfold keys
    rw [List.map_append, List.nodup_append]
    exact ⟨T.kn, by simp, fun a ha b hb z => hq (by simp at hb; rw [← hb, ← z]; exact ha)⟩
  tr j q' p h := by
    rcases snoc_get h with h | ⟨h1, h2⟩
    · obtain ⟨m, e, h1, h2, h3⟩ := T.tr j q' p h
      refine ⟨m, e, h1, h2, h3.imp id ?_⟩
      rintro ⟨l, q2, p2, a1, a2, a3⟩
      exact ⟨l, q2, p2, a1, by rw [List.getElem?_append_left (List.getElem?_eq_some_iff.mp a2).1]; exact a2, a3⟩
    · cases h2
      refine ⟨n, rfl, hn, hh, hw.imp id ?_⟩
      rintro ⟨q2, a1, a2⟩
      obtain ⟨l, hl⟩ := List.mem_iff_getElem?.mp a2
      unfold keys at hl
      rw [List.getElem?_map] at hl
      cases e : tk[l]? with
      | none => rw [e] at hl; cases hl
      | some x =>
        rw [e] at hl
        obtain ⟨x1, x2⟩ := x
        cases hl
        have hlt := (List.getElem?_eq_some_iff.mp e).1
        exact ⟨l, _, x2, a1, by rw [List.getElem?_append_left hlt]; exact e, by omega⟩
/-- what the search holds between two turns -/
structure Bfs (caps : List Int) (hs : List (List Int)) (dl : List (Option Pr)) (S : List Int) (tk : Tk) (wl : List Int) : Prop where
  tree : Tree caps hs dl S tk
  wn : Hold hs.length wl
  wi : ∀ n : Nat, (n : Int) ∈ wl → (dl[n]? = some none ∧ (n : Int) ∈ S) ∨ ∃ q', dl[n]? = some (some q') ∧ q' ∈ keys tk
  full : ∀ q ∈ keys tk, roomOf caps q ≤ (dl.count (some q) : Nat) ∧ ∀ n : Nat, dl[n]? = some (some q) → (n : Int) ∈ wl
  st : ∀ n : Nat, (n : Int) ∈ S → dl[n]? = some none → (n : Int) ∈ wl
theorem Bfs.new (hS : Hold hs.length S) (hl : dl.length = hs.length) : Bfs caps hs dl S [] (S.filter fun p => decide (at_ dl p = none)) := by
  have ge : ∀ n : Nat, (n : Int) ∈ S → dl[n]? = some (at_ dl (n : Int)) := fun n h => by
    have := (hS.2 _ h).2
    have := at_get (xs := dl) (k := (n : Int)) (by omega) (by omega)
    rw [Int.toNat_natCast] at this
    exact this
  refine ⟨⟨List.nodup_nil, fun j q p h => by cases h⟩, ⟨hS.1.sublist List.filter_sublist, fun k hk => hS.2 k (List.mem_filter.mp hk).1⟩, fun n hn => .inl ?_, fun q h => (by cases h), fun n h1 h2 => List.mem_filter.mpr ⟨h1, ?_⟩⟩
  · obtain ⟨h1, h2⟩ := List.mem_filter.mp hn
    exact ⟨by rw [ge n h1, of_decide_eq_true h2], h1⟩
  · rw [ge n h1] at h2
    exact decide_eq_true (Option.some.inj h2)
theorem Bfs.more {tk : Tk} {wl : List Int} (b : Bfs caps hs dl S tk wl) (hl : dl.length = hs.length) {q : Pr} {n : Nat} (hq : q ∉ keys tk) (hn : (n : Int) ∈ wl) (hh : q ∈ heldP caps (hs[n]?.getD [])) (hf : roomOf caps q ≤ (dl.count (some q) : Nat)) :
    Bfs caps hs dl S (tk ++ [(q, (n : Int))]) (wl ++ seatsOf 0 dl q) := by
  have ks : ∀ x, x ∈ keys (tk ++ [(q, (n : Int))]) ↔ x ∈ keys tk ∨ x = q := fun x => by unfold keys; rw [List.map_append, List.mem_append]; simp
  have hnl : n < hs.length := by have := (b.wn.2 _ hn).2; omega
  have hsm : ∀ m : Nat, (m : Int) ∈ seatsOf 0 dl q ↔ dl[m]? = some (some q) := fun m => by
    rw [seatsOf_mem]
    constructor
    · rintro ⟨p, h1, h2⟩; rw [show m = p by omega]; exact h2
    · exact fun h => ⟨m, by omega, h⟩
  refine ⟨b.tree.grow hq hnl hh (b.wi n hn), ⟨?_, fun k hk => ?_⟩, fun m hm => ?_, fun q' h => ?_, fun m h1 h2 => List.mem_append_left _ (b.st m h1 h2)⟩
  · rw [List.nodup_append]
    refine ⟨b.wn.1, seatsOf_nodup q dl 0, fun x hx y hy z => ?_⟩
    rw [z] at hx
    obtain ⟨p, h1, h2⟩ := seatsOf_mem.mp hy
    rw [show (0 + p : Nat) = p by omega] at h1
    rw [h1] at hx
    rcases b.wi p hx with ⟨h3, _⟩ | ⟨q', h3, h4⟩
    · rw [h2] at h3; cases h3
    · rw [h2] at h3; cases h3; exact hq h4
  · rcases List.mem_append.mp hk with z | z
    · exact b.wn.2 k z
    · obtain ⟨p, h1, h2⟩ := seatsOf_mem.mp z
      have := (List.getElem?_eq_some_iff.mp h2).1
      omega
  · rcases List.mem_append.mp hm with z | z
    · exact (b.wi m z).imp id fun ⟨q', h1, h2⟩ => ⟨q', h1, (ks q').mpr (.inl h2)⟩
    · exact .inr ⟨q, (hsm m).mp z, (ks q).mpr (.inr rfl)⟩
  · rcases (ks q').mp h with z | z
    · exact ⟨(b.full q' z).1, fun m hm => List.mem_append_left _ ((b.full q' z).2 m hm)⟩
    · rw [z]
      exact ⟨hf, fun m hm => List.mem_append_right _ ((hsm m).mpr hm)⟩
/-- what stands when no walk is found -/
structure Stuck (caps : List Int) (hs : List (List Int)) (dl : List (Option Pr)) (S : List Int) (K : List Pr) : Prop where
  nd : K.Nodup
  full : ∀ q ∈ K, roomOf caps q ≤ (dl.count (some q) : Nat)
  st : ∀ n : Nat, (n : Int) ∈ S → dl[n]? = some none → ∀ q ∈ heldP caps (hs[n]?.getD []), q ∈ K
  sat : ∀ (n : Nat) (q : Pr), dl[n]? = some (some q) → q ∈ K → ∀ q' ∈ heldP caps (hs[n]?.getD []), q' ∈ K
theorem Bfs.stuck {tk : Tk} {wl : List Int} (b : Bfs caps hs dl S tk wl) (h : ∀ n : Nat, (n : Int) ∈ wl → ∀ q ∈ heldP caps (hs[n]?.getD []), q ∈ keys tk) : Stuck caps hs dl S (keys tk) :=
  ⟨b.tree.kn, fun q hq => (b.full q hq).1, fun n h1 h2 => h n (b.st n h1 h2), fun n q h1 h2 => h n ((b.full q h2).2 n h1)⟩
end
end Zc
end

section
set_option Elab.async false
set_option linter.all false
set_option maxRecDepth 100000
set_option maxHeartbeats 2000000
/-! Lots and places: what a dealing can reach, and what a failed search shows. -/
namespace Zc
open PySem L2 Zk
theorem nodup_sub {α : Type} [DecidableEq α] : ∀ {l1 l2 : List α}, l1.Nodup → (∀ x ∈ l1, x ∈ l2) → l1.length ≤ l2.length
  | [], _, _, _ => Nat.zero_le _
  | a :: l, l2, n, h => by
    have ha := h a List.mem_cons_self
    have hn := List.nodup_cons.mp n
    have := nodup_sub (l2 := l2.erase a) hn.2 fun x hx => (List.mem_erase_of_ne (fun z => hn.1 (by rw [← z]; exact hx))).mpr (h x (List.mem_cons_of_mem _ hx))
    rw [List.length_erase_of_mem ha] at this
    have : 0 < l2.length := List.length_pos_of_mem ha
    rw [List.length_cons]
    omega
def sumP (g : Pr → Int) : List Pr → Int
  | [] => 0
  | q :: r => g q + sumP g r
/-! ### where a word stands in a dealing -/
def idxOf : Nat → List (Option Pr) → Option Pr → List Int
  | _, [], _ => []
  | n, x :: r, o => if x = o then (n : Int) :: idxOf (n + 1) r o else idxOf (n + 1) r o
theorem idxOf_cons (n : Nat) (x : Option Pr) (r : List (Option Pr)) (o : Option Pr) : idxOf n (x :: r) o = if x = o then (n : Int) :: idxOf (n + 1) r o else idxOf (n + 1) r o := rfl
/-! ### pairs, places -/
def pairsP (n : Nat) : List Pr := (List.range n).flatMap fun a => (List.range (n - (a + 1))).map fun j => ((a : Int), ((a + 1 + j : Nat) : Int))
theorem pairsP_mem {n : Nat} {q : Pr} : q ∈ pairsP n ↔ 0 ≤ q.1 ∧ q.1 < q.2 ∧ q.2 < (n : Int) := by
  unfold pairsP
  rw [List.mem_flatMap]
  constructor
  · rintro ⟨a, ha, h⟩
    obtain ⟨j, hj, rfl⟩ := List.mem_map.mp h
    rw [List.mem_range] at ha hj
    exact ⟨by simp, by simp; omega, by simp; omega⟩
  · rintro ⟨h1, h2, h3⟩
    obtain ⟨x, y⟩ := q
    simp only at h1 h2 h3
    refine ⟨x.toNat, List.mem_range.mpr (by omega), List.mem_map.mpr ⟨(y - x - 1).toNat, List.mem_range.mpr (by omega), ?_⟩⟩
    ext <;> simp <;> omega
theorem pairsP_nodup (n : Nat) : (pairsP n).Nodup := by
  unfold pairsP List.Nodup
  rw [List.pairwise_flatMap]
  refine ⟨fun a _ => ?_, ?_⟩
  · rw [List.pairwise_map]
    exact List.nodup_range.imp fun h z => h (by have := (Prod.mk.inj z).2; omega)
  · refine List.nodup_range.imp fun h x hx y hy z => h ?_
    obtain ⟨j, _, rfl⟩ := List.mem_map.mp hx
    obtain ⟨j', _, rfl⟩ := List.mem_map.mp hy
    have := (Prod.mk.inj z).1
    omega
def touch (hs : List (List Int)) (L : List Int) (q : Pr) : Bool := L.any fun p => (at_ hs p).contains q.1 && (at_ hs p).contains q.2
theorem touch_iff {hs : List (List Int)} {L : List Int} {q : Pr} : touch hs L q = true ↔ ∃ p ∈ L, q.1 ∈ at_ hs p ∧ q.2 ∈ at_ hs p := by
  unfold touch
  simp [List.any_eq_true]
def gP (caps : List Int) (hs : List (List Int)) (L : List Int) (q : Pr) : Int := if touch hs L q = true then roomOf caps q else 0
def placesP (caps : List Int) (hs : List (List Int)) (L : List Int) : Int := sumP (gP caps hs L) (pairsP caps.length)
section
variable {caps : List Int} {hs : List (List Int)} {m : Nat}
theorem hs_at {p : Nat} (h : p < hs.length) : hs[p]? = some (at_ hs (p : Int)) := by
  have := at_get (xs := hs) (k := (p : Int)) (by omega) (by omega)
  rw [Int.toNat_natCast] at this
  exact this
end
end Zc
end

section
set_option Elab.async false
set_option linter.all false
set_option maxRecDepth 100000
set_option maxHeartbeats 2000000
/-! The greatest number that can be dealt, as the laws count it. -/
namespace Zc
open PySem L2 Zk
def lotsL : Nat → List (List Int)
  | 0 => [[]]
  | n + 1 => lotsL n ++ (lotsL n).map fun l => l ++ [(n : Int)]
theorem pickI_succ (n : Nat) (T : Nat → Bool) : pickI (n + 1) T = pickI n T ++ if T n = true then [(n : Int)] else [] := by
  unfold pickI
  rw [List.range_succ, List.filter_append, List.map_append]
  congr 1
  cases h : T n <;> simp [List.filter_cons, h]
theorem lotsL_pick (T : Nat → Bool) : ∀ n : Nat, pickI n T ∈ lotsL n
  | 0 => List.mem_singleton.mpr rfl
  | n + 1 => by
    have ih := lotsL_pick T n
    rw [pickI_succ]
    unfold lotsL
    rw [List.mem_append]
    cases h : T n with
    | false => rw [if_neg (by simp), List.append_nil]; exact .inl ih
    | true => rw [if_pos rfl]; exact .inr (List.mem_map.mpr ⟨_, ih, rfl⟩)
theorem lotsL_hold : ∀ {n : Nat} {L : List Int}, L ∈ lotsL n → Hold n L
  | 0, L, h => by
    rw [List.mem_singleton.mp h]
    exact ⟨List.nodup_nil, fun k hk => by cases hk⟩
  | n + 1, L, h => by
    unfold lotsL at h
    rcases List.mem_append.mp h with h | h
    · have := lotsL_hold h
      exact ⟨this.1, fun k hk => by have := this.2 k hk; omega⟩
    · obtain ⟨l, h1, rfl⟩ := List.mem_map.mp h
      have ih := lotsL_hold h1
      refine ⟨?_, fun k hk => ?_⟩
      · rw [List.nodup_append]
        refine ⟨ih.1, by simp, fun a ha b hb z => ?_⟩
        have := (ih.2 a ha).2
        rw [List.mem_singleton.mp hb] at z
        omega
      · rcases List.mem_append.mp hk with z | z
        · have := ih.2 k z; omega
        · rw [List.mem_singleton.mp z]; omega
def lackStep (caps : List Int) (hs : List (List Int)) (a : Int) (L : List Int) : Int := if (L.length : Int) - placesP caps hs L > a then (L.length : Int) - placesP caps hs L else a
def lackP (caps : List Int) (hs : List (List Int)) : Int := (lotsL hs.length).foldl (lackStep caps hs) 0
section
variable {caps : List Int} {hs : List (List Int)} {m : Nat}
theorem lack_fold : ∀ (Ls : List (List Int)) (a : Int), a ≤ Ls.foldl (lackStep caps hs) a ∧ (∀ L ∈ Ls, (L.length : Int) - placesP caps hs L ≤ Ls.foldl (lackStep caps hs) a) ∧ (Ls.foldl (lackStep caps hs) a = a ∨ ∃ L ∈ Ls, Ls.foldl (lackStep caps hs) a = (L.length : Int) - placesP caps hs L)
  | [], a => ⟨Int.le_refl _, fun L h => (by cases h), .inl rfl⟩
  | L :: Ls, a => by
    obtain ⟨h1, h2, h3⟩ := lack_fold Ls (lackStep caps hs a L)
    have hs1 : a ≤ lackStep caps hs a L := by unfold lackStep; split <;> omega
    have hs2 : (L.length : Int) - placesP caps hs L ≤ lackStep caps hs a L := by unfold lackStep; split <;> omega
    have hs3 : lackStep caps hs a L = a ∨ lackStep caps hs a L = (L.length : Int) - placesP caps hs L := by unfold lackStep; split <;> simp
    rw [List.foldl_cons]
    refine ⟨by omega, fun L' h => ?_, ?_⟩
    · rcases List.mem_cons.mp h with z | z
      · rw [z]; omega
      · exact h2 L' z
    · rcases h3 with z | ⟨L', z1, z2⟩
      · rcases hs3 with y | y
        · exact .inl (z.trans y)
        · exact .inr ⟨L, List.mem_cons_self, z.trans y⟩
      · exact .inr ⟨L', List.mem_cons_of_mem _ z1, z2⟩
/-- how many are dealt -/
def dealt (dl : List (Option Pr)) : Int := (dl.length : Int) - (dl.count none : Nat)
/-! ### some of the pieces -/
end
end Zc
end

section
set_option Elab.async false
set_option linter.all false
set_option maxRecDepth 100000
set_option maxHeartbeats 2000000
/-! Who can be dealt: what a walk shows and what a failed search shows. -/
namespace Zc
open PySem L2 Zk
section
structure Mode (caps : List Int) (hs : List (List Int)) (M : Int) : Prop where
  ge : ∀ dl : List (Option Pr), DealOk caps hs dl → dealt dl ≤ M
  le : ∀ (dl : List (Option Pr)) (S : List Int) (K : List Pr), DealOk caps hs dl → Stuck caps hs dl S K → (∀ n : Nat, n < hs.length → (n : Int) ∈ S) → M ≤ dealt dl
structure Able (caps : List Int) (hs : List (List Int)) (dl : List (Option Pr)) (ab : List Int) : Prop where
  walk : ∀ (sts : Steps) (s : Int × Pr), dueB caps hs dl sts = true → sts.head? = some s → s.1 ∈ ab
  stuck : ∀ (S : List Int) (K : List Pr) (n : Nat), Stuck caps hs dl S K → (n : Int) ∈ S → n < hs.length → (n : Int) ∉ ab
/-! ### pools that a dealing fills -/
structure Rich (caps : List Int) (hs : List (List Int)) : Prop where
  ex : ∃ dl : List (Option Pr), IsDeal caps hs dl ∧ ∀ (p : Nat) (h : List Int), hs[p]? = some h → (dl[p]? = some none ↔ h.length ≤ 1)
end
end Zc
end

section
set_option Elab.async false
set_option linter.all false
set_option maxRecDepth 100000
set_option maxHeartbeats 2000000
/-! Greatest dealings, as the program makes them. -/
namespace Zc
open PySem L2 Zk
/-- the counts of the first pieces -/
structure Given (dl : List (Option Pr)) (tk : Tk) : Prop where
  kn : (keys tk).Nodup
  val : ∀ e ∈ tk, e.2 = ((dl.count (some e.1) : Nat) : Int)
  no : ∀ q, q ∉ keys tk → dl.count (some q) = 0
  inn : ∀ q ∈ keys tk, some q ∈ dl
theorem Given.get {dl : List (Option Pr)} {tk : Tk} (g : Given dl tk) (q : Pr) : (getK (tkD tk) (prK q)).getD (.int 0) = .int ((dl.count (some q) : Nat) : Int) := by
  rw [getK_tk]
  cases h : tk.find? fun e => decide (e.1 = q) with
  | none =>
    have : q ∉ keys tk := fun z => by
      obtain ⟨e, h1, h2⟩ := List.mem_map.mp z
      exact List.find?_eq_none.mp h e h1 (decide_eq_true h2)
    rw [g.no q this]; rfl
  | some e =>
    have e1 : e.1 = q := of_decide_eq_true (List.find?_some (p := fun e : Pr × Int => decide (e.1 = q)) h)
    have := g.val e (List.mem_of_find?_eq_some h)
    show D.int e.2 = _
    rw [this, e1]
theorem Given.skip {dl : List (Option Pr)} {tk : Tk} (g : Given dl tk) : Given (dl ++ [none]) tk := by
  have cq : ∀ r : Pr, (dl ++ [none]).count (some r) = dl.count (some r) := fun r => by
    rw [List.count_append, List.count_singleton]; simp
  exact ⟨g.kn, fun e he => by rw [cq]; exact g.val e he, fun q hq => by rw [cq]; exact g.no q hq, fun q hq => List.mem_append_left _ (g.inn q hq)⟩
section
variable {caps : List Int} {hs : List (List Int)} {m : Nat}
end
end Zc
end

section
set_option Elab.async false
set_option linter.all false
set_option maxRecDepth 100000
set_option maxHeartbeats 2000000
/-! Dealings and lots judged, whatever the list. -/
namespace Zc
open PySem L2 Zk
/-! ### is_dealing -/
section
variable {caps : List Int} {hs : List (List Int)} {m : Nat}
theorem all_bls {α : Type} (xs : List α) (T : α → Bool) : allD [.lst (xs.map fun x => D.bl (T x))] = some (.bl (xs.all T)) := by
  show (asBls _).map _ = _
  rw [asBls_map]
  show some (D.bl _) = _
  rw [List.all_map]; rfl
end
/-! ### are_ascending -/
instance {n : Nat} {h : List Int} : Decidable (Asc n h) := by unfold Asc; exact inferInstance
/-! ### repr of a list of alike data -/
end Zc
end

section
set_option Elab.async false
set_option linter.all false
set_option maxRecDepth 100000
set_option autoImplicit false
set_option maxHeartbeats 2000000
/-! Lots of greatest lack against a greatest dealing: the open pairs. -/
namespace Zc
open PySem L2 Zk
section
variable {caps : List Int} {hs : List (List Int)} {m : Nat} {dl : List (Option Pr)}
/-- of greatest lack, where dl is a greatest dealing -/
structure Tight (caps : List Int) (hs : List (List Int)) (dl : List (Option Pr)) (L : List Int) : Prop where
  hold : Hold hs.length L
  eq : (L.length : Int) = placesP caps hs L + (dl.count none : Nat)
/-- what a dealt piece holds -/
theorem dealt_in (ok : PoolOk caps hs m) (dk : DealOk caps hs dl) {n : Nat} {q : Pr} (h : dl[n]? = some (some q)) : n < hs.length ∧ q ∈ pairsP caps.length ∧ q.1 ∈ at_ hs (n : Int) ∧ q.2 ∈ at_ hs (n : Int) ∧ 0 < roomOf caps q := by
  obtain ⟨r, h1, h2⟩ := dk.held n q h
  have hn := (List.getElem?_eq_some_iff.mp h1).1
  have ha := ok.asc r (List.mem_of_getElem? h1)
  have z := (heldP_mem ha q).mp h2
  have w := held_in ha h2
  have e : at_ hs (n : Int) = r := at_eq (m := n) rfl h1
  refine ⟨hn, pairsP_mem.mpr ⟨w.1.1, z.2.2.1, w.2.2⟩, by rw [e]; exact z.1, by rw [e]; exact z.2.1, ?_⟩
  have hc : 0 < dl.count (some q) := List.count_pos_iff.mpr (List.mem_of_getElem? h)
  rcases dk.room q with r | r
  · omega
  · omega
/-- what the program opens -/
inductive Op (caps : List Int) (hs : List (List Int)) (dl : List (Option Pr)) : Pr → Prop
  | free {q : Pr} : q ∈ pairsP caps.length → 0 < roomOf caps q → ((dl.count (some q) : Nat) : Int) < roomOf caps q → Op caps hs dl q
  | step {q q' : Pr} {n : Nat} : Op caps hs dl q' → dl[n]? = some (some q) → q'.1 ∈ at_ hs (n : Int) → q'.2 ∈ at_ hs (n : Int) → Op caps hs dl q
theorem Op.room (ok : PoolOk caps hs m) (dk : DealOk caps hs dl) {q : Pr} (o : Op caps hs dl q) : q ∈ pairsP caps.length ∧ 0 < roomOf caps q := by
  cases o with
  | free h1 h2 _ => exact ⟨h1, h2⟩
  | step _ h _ _ => have := dealt_in ok dk h; exact ⟨this.2.1, this.2.2.2.2⟩
end
end Zc
end

section
set_option Elab.async false
set_option linter.all false
set_option maxRecDepth 100000
set_option autoImplicit false
set_option maxHeartbeats 2000000
/-! One piece more. -/
namespace Zc
open PySem L2 Zk
theorem sumP_same {g g' : Pr → Int} : ∀ {P : List Pr}, (∀ q ∈ P, g q = g' q) → sumP g P = sumP g' P
  | [], _ => rfl
  | x :: P, h => by
    unfold sumP
    rw [h x List.mem_cons_self, sumP_same (P := P) fun y hy => h y (List.mem_cons_of_mem _ hy)]
section
variable {caps : List Int} {hs : List (List Int)} {m : Nat} {dl : List (Option Pr)}
end
end Zc
end

section
set_option Elab.async false
set_option linter.all false
set_option maxRecDepth 100000
set_option autoImplicit false
set_option maxHeartbeats 2000000
/-! A pool laid out t times on some of twelve seats. -/
namespace Zc
open PySem L2 Zk
/-- t copies -/
def copies {α : Type} (t : Nat) (xs : List α) : List α := (List.replicate t xs).flatten
theorem copies_len {α : Type} (t : Nat) (xs : List α) : (copies t xs).length = t * xs.length := by
  unfold copies
  rw [List.length_flatten, List.map_replicate, List.sum_replicate_nat]
theorem copies_get {α : Type} (xs : List α) : ∀ (t j : Nat), j < t * xs.length → (copies t xs)[j]? = xs[j % xs.length]?
  | 0, j, h => by omega
  | t + 1, j, h => by
    have e : copies (t + 1) xs = xs ++ copies t xs := by unfold copies; rw [List.replicate_succ, List.flatten_cons]
    rw [e]
    by_cases hj : j < xs.length
    · rw [List.getElem?_append_left hj, Nat.mod_eq_of_lt hj]
    · have h2 : (t + 1) * xs.length = t * xs.length + xs.length := Nat.succ_mul _ _
      rw [List.getElem?_append_right (by omega), copies_get xs t (j - xs.length) (by omega)]
      congr 1
      exact (Nat.mod_eq_sub_mod (by omega)).symm
/-- how many of range (t * n) have a remainder that T likes -/
theorem period_len (n : Nat) (T : Nat → Bool) : ∀ t : Nat, ((List.range (t * n)).filter fun j => T (j % n)).length = t * ((List.range n).filter T).length
  | 0 => by simp
  | t + 1 => by
    have e : List.range ((t + 1) * n) = List.range (t * n) ++ (List.range n).map (fun j => t * n + j) := by
      rw [Nat.succ_mul, List.range_add]
    rw [e, List.filter_append, List.length_append, period_len n T t, List.filter_map, List.length_map, Nat.succ_mul]
    congr 2
    refine List.filter_congr fun j hj => ?_
    show T ((t * n + j) % n) = T j
    rw [Nat.mul_comm t n, Nat.mul_add_mod, Nat.mod_eq_of_lt (List.mem_range.mp hj)]
/-- a pool laid out t times on the seats sp of twelve -/
structure Laid (caps : List Int) (hs : List (List Int)) (sp wide : List Int) (rows : List (List Int)) (t : Nat) : Prop where
  t1 : 1 ≤ t
  sl : sp.length = caps.length
  s0 : ∀ k : Int, 0 ≤ k → k < (caps.length : Nat) → 0 ≤ at_ sp k ∧ at_ sp k < 12
  inc : ∀ i j : Int, 0 ≤ i → i < j → j < (caps.length : Nat) → at_ sp i < at_ sp j
  wl : wide.length = 12
  w0 : ∀ x ∈ wide, 0 ≤ x ∧ x < 10 ^ 60
  wc : ∀ k : Int, 0 ≤ k → k < (caps.length : Nat) → at_ wide (at_ sp k) = at_ caps k * (t : Int)
  rw : rows = (copies t hs).map fun r => r.map (at_ sp)
def sig (sp : List Int) (q : Pr) : Pr := (at_ sp q.1, at_ sp q.2)
section
variable {caps : List Int} {hs : List (List Int)} {sp wide : List Int} {rows : List (List Int)} {t m : Nat}
theorem Laid.inj (l : Laid caps hs sp wide rows t) {i j : Int} (hi : 0 ≤ i ∧ i < (caps.length : Nat)) (hj : 0 ≤ j ∧ j < (caps.length : Nat)) (e : at_ sp i = at_ sp j) : i = j := by
  rcases Int.lt_trichotomy i j with z | z | z
  · have := l.inc i j hi.1 z hj.2; omega
  · exact z
  · have := l.inc j i hj.1 z hi.2; omega
theorem Laid.len (l : Laid caps hs sp wide rows t) : rows.length = t * hs.length := by rw [l.rw, List.length_map, copies_len]
theorem Laid.row (l : Laid caps hs sp wide rows t) {j : Nat} (hj : j < t * hs.length) : at_ rows (j : Int) = (at_ hs ((j % hs.length : Nat) : Int)).map (at_ sp) := by
  have hn : 0 < hs.length := by
    rcases Nat.eq_zero_or_pos hs.length with z | z
    · rw [z] at hj; simp at hj
    · exact z
  have h1 := copies_get hs t j hj
  have h2 := hs_at (hs := hs) (p := j % hs.length) (Nat.mod_lt _ hn)
  rw [h2] at h1
  refine at_eq (m := j) rfl ?_
  rw [l.rw, List.getElem?_map, h1]
  rfl
theorem Laid.mem (l : Laid caps hs sp wide rows t) (ok : PoolOk caps hs m) {p : Nat} (hp : p < hs.length) {x : Int} (hx : 0 ≤ x ∧ x < (caps.length : Nat)) : at_ sp x ∈ (at_ hs (p : Int)).map (at_ sp) ↔ x ∈ at_ hs (p : Int) := by
  have ha := ok.asc _ (List.mem_of_getElem? (hs_at hp))
  constructor
  · intro h
    obtain ⟨y, hy, e⟩ := List.mem_map.mp h
    rw [← l.inj (ha.2 y hy) hx e]
    exact hy
  · exact fun h => List.mem_map.mpr ⟨x, h, rfl⟩
/-- the kinds of a lot -/
def baseL (hs : List (List Int)) (L : List Int) : List Int := pickI hs.length fun p => L.any fun x => x.toNat % hs.length == p
def fullL (hs : List (List Int)) (t : Nat) (B : List Int) : List Int := pickI (t * hs.length) fun j => B.contains ((j % hs.length : Nat) : Int)
theorem base_mem {L : List Int} {x : Int} : x ∈ baseL hs L ↔ ∃ p : Nat, x = (p : Int) ∧ p < hs.length ∧ ∃ y ∈ L, y.toNat % hs.length = p := by
  unfold baseL
  rw [pickI_mem]
  constructor
  · rintro ⟨p, rfl, hp, h⟩
    obtain ⟨y, hy, e⟩ := List.any_eq_true.mp h
    exact ⟨p, rfl, hp, y, hy, eq_of_beq e⟩
  · rintro ⟨p, rfl, hp, y, hy, e⟩
    exact ⟨p, rfl, hp, List.any_eq_true.mpr ⟨y, hy, by rw [e]; exact beq_self_eq_true _⟩⟩
theorem Laid.tch (l : Laid caps hs sp wide rows t) (ok : PoolOk caps hs m) {L : List Int} (hL : Hold (t * hs.length) L) {q : Pr} (hq : q ∈ pairsP caps.length) : touch rows L (sig sp q) = touch hs (baseL hs L) q := by
  have hq2 := pairsP_mem.mp hq
  rw [Bool.eq_iff_iff, touch_iff, touch_iff]
  constructor
  · rintro ⟨y, hy, a, b⟩
    have h1 := hL.2 y hy
    have hn : 0 < hs.length := by
      rcases Nat.eq_zero_or_pos hs.length with z | z
      · rw [z] at h1; simp at h1; omega
      · exact z
    have hm := Nat.mod_lt y.toNat hn
    rw [show y = ((y.toNat : Nat) : Int) by omega, l.row (by omega)] at a b
    exact ⟨_, base_mem.mpr ⟨y.toNat % hs.length, rfl, hm, y, hy, rfl⟩, (l.mem ok hm ⟨hq2.1, by omega⟩).mp a, (l.mem ok hm ⟨by omega, hq2.2.2⟩).mp b⟩
  · rintro ⟨x, hx, a, b⟩
    obtain ⟨p, rfl, hp, y, hy, e⟩ := base_mem.mp hx
    have h1 := hL.2 y hy
    refine ⟨y, hy, ?_⟩
    rw [show y = ((y.toNat : Nat) : Int) by omega, l.row (by omega), e]
    exact ⟨(l.mem ok hp ⟨hq2.1, by omega⟩).mpr a, (l.mem ok hp ⟨by omega, hq2.2.2⟩).mpr b⟩
/-- no piece holds a seat beside sp -/
theorem Laid.beside (l : Laid caps hs sp wide rows t) (ok : PoolOk caps hs m) {L : List Int} (hL : Hold (t * hs.length) L) {q : Pr} (h : touch rows L q = true) (h2 : q.1 < q.2) : ∃ r, r ∈ pairsP caps.length ∧ sig sp r = q := by
  obtain ⟨y, hy, a, b⟩ := touch_iff.mp h
  have h1 := hL.2 y hy
  have hn : 0 < hs.length := by
    rcases Nat.eq_zero_or_pos hs.length with z | z
    · rw [z] at h1; simp at h1; omega
    · exact z
  have hm := Nat.mod_lt y.toNat hn
  rw [show y = ((y.toNat : Nat) : Int) by omega, l.row (by omega)] at a b
  obtain ⟨x1, hx1, e1⟩ := List.mem_map.mp a
  obtain ⟨x2, hx2, e2⟩ := List.mem_map.mp b
  have ha := ok.asc _ (List.mem_of_getElem? (hs_at hm))
  have r1 := ha.2 x1 hx1
  have r2 := ha.2 x2 hx2
  have lt : x1 < x2 := by
    rcases Int.lt_trichotomy x1 x2 with z | z | z
    · exact z
    · rw [z] at e1; omega
    · have := l.inc x2 x1 r2.1 z r1.2; omega
  exact ⟨(x1, x2), pairsP_mem.mpr ⟨r1.1, lt, r2.2⟩, Prod.ext e1 e2⟩
theorem sumP_filter {g : Pr → Int} {T : Pr → Bool} : ∀ {A : List Pr}, (∀ x ∈ A, T x = false → g x = 0) → sumP g A = sumP g (A.filter T)
  | [], _ => rfl
  | x :: A, h => by
    have ih := sumP_filter (A := A) fun y hy => h y (List.mem_cons_of_mem _ hy)
    rw [List.filter_cons]
    cases e : T x with
    | true => show g x + sumP g A = g x + sumP g _; rw [ih]
    | false =>
      have := h x List.mem_cons_self e
      show g x + sumP g A = sumP g (A.filter T)
      rw [ih, this, Int.zero_add]
theorem sumP_perm {g : Pr → Int} {A B : List Pr} (p : A.Perm B) : sumP g A = sumP g B := by
  induction p with
  | nil => rfl
  | cons x _ ih => show g x + _ = g x + _; rw [ih]
  | swap x y l => show g y + (g x + sumP g l) = g x + (g y + sumP g l); omega
  | trans _ _ h1 h2 => exact h1.trans h2
theorem sumP_mapT {g f : Pr → Int} {s : Pr → Pr} {c : Int} : ∀ {A : List Pr}, (∀ x ∈ A, g (s x) = f x * c) → sumP g (A.map s) = sumP f A * c
  | [], _ => by simp [sumP]
  | x :: A, h => by
    show g (s x) + sumP g (A.map s) = (f x + sumP f A) * c
    rw [h x List.mem_cons_self, sumP_mapT (A := A) fun y hy => h y (List.mem_cons_of_mem _ hy), Int.add_mul]
theorem Laid.room (l : Laid caps hs sp wide rows t) {q : Pr} (hq : q ∈ pairsP caps.length) : roomOf wide (sig sp q) = roomOf caps q * (t : Int) := by
  have hq2 := pairsP_mem.mp hq
  show (if at_ wide (at_ sp q.2) < at_ wide (at_ sp q.1) then at_ wide (at_ sp q.2) else at_ wide (at_ sp q.1)) = (if at_ caps q.2 < at_ caps q.1 then at_ caps q.2 else at_ caps q.1) * (t : Int)
  rw [l.wc q.1 hq2.1 (by omega), l.wc q.2 (by omega) hq2.2.2]
  have ht : (0 : Int) < (t : Int) := by have := l.t1; omega
  by_cases z : at_ caps q.2 < at_ caps q.1
  · rw [if_pos z, if_pos (Int.mul_lt_mul_of_pos_right z ht)]
  · rw [if_neg z, if_neg fun w => z (Int.lt_of_mul_lt_mul_right w (by omega))]
theorem Laid.sig_in (l : Laid caps hs sp wide rows t) {q : Pr} (hq : q ∈ pairsP caps.length) : sig sp q ∈ pairsP wide.length := by
  have hq2 := pairsP_mem.mp hq
  have a := l.s0 q.1 hq2.1 (by omega)
  have b := l.s0 q.2 (by omega) hq2.2.2
  exact pairsP_mem.mpr ⟨a.1, l.inc q.1 q.2 hq2.1 hq2.2.1 hq2.2.2, by rw [l.wl]; exact b.2⟩
theorem Laid.sig_inj (l : Laid caps hs sp wide rows t) {q r : Pr} (hq : q ∈ pairsP caps.length) (hr : r ∈ pairsP caps.length) (e : sig sp q = sig sp r) : q = r := by
  have hq2 := pairsP_mem.mp hq
  have hr2 := pairsP_mem.mp hr
  have e1 : at_ sp q.1 = at_ sp r.1 := congrArg Prod.fst e
  have e2 : at_ sp q.2 = at_ sp r.2 := congrArg Prod.snd e
  exact Prod.ext (l.inj ⟨hq2.1, by omega⟩ ⟨hr2.1, by omega⟩ e1) (l.inj ⟨by omega, hq2.2.2⟩ ⟨by omega, hr2.2.2⟩ e2)
theorem Laid.places (l : Laid caps hs sp wide rows t) (ok : PoolOk caps hs m) {L : List Int} (hL : Hold (t * hs.length) L) : placesP wide rows L = placesP caps hs (baseL hs L) * (t : Int) := by
  have hn : ((pairsP caps.length).map (sig sp)).Nodup := by
    refine List.pairwise_map.mpr ((pairsP_nodup caps.length).imp_of_mem fun {a b} ha hb hne e => hne (l.sig_inj ha hb e))
  have e1 : sumP (gP wide rows L) (pairsP wide.length) = sumP (gP wide rows L) ((pairsP wide.length).filter fun q => decide (q ∈ (pairsP caps.length).map (sig sp))) := sumP_filter fun q hq hT => by
    unfold gP
    split
    · rename_i h
      obtain ⟨r, h1, h2⟩ := l.beside ok hL h (pairsP_mem.mp hq).2.1
      have := of_decide_eq_false hT
      exact absurd (List.mem_map.mpr ⟨r, h1, h2⟩) this
    · rfl
  have e2 : ((pairsP wide.length).filter fun q => decide (q ∈ (pairsP caps.length).map (sig sp))).Perm ((pairsP caps.length).map (sig sp)) := (List.perm_ext_iff_of_nodup ((pairsP_nodup _).sublist List.filter_sublist) hn).mpr fun q => by
    rw [List.mem_filter, decide_eq_true_eq]
    refine ⟨fun h => h.2, fun h => ⟨?_, h⟩⟩
    obtain ⟨r, h1, rfl⟩ := List.mem_map.mp h
    exact l.sig_in h1
  unfold placesP
  rw [e1, sumP_perm e2]
  refine sumP_mapT fun q hq => ?_
  unfold gP
  rw [l.tch ok hL hq]
  split
  · exact l.room hq
  · rw [Int.zero_mul]
theorem full_len {B : List Int} (hB : Hold hs.length B) : (fullL hs t B).length = t * B.length := by
  unfold fullL pickI
  rw [List.length_map, period_len hs.length (fun p => B.contains ((p : Nat) : Int)) t]
  congr 1
  have e : (((List.range hs.length).filter fun p => B.contains ((p : Nat) : Int)).map fun i => ((i : Nat) : Int)).length = B.length := by
    refine Nat.le_antisymm (nodup_sub (Asc.hold (pickI_asc hs.length fun p => B.contains ((p : Nat) : Int))).1 fun x hx => ?_) (nodup_sub hB.1 fun x hx => ?_)
    · obtain ⟨p, rfl, _, h⟩ := pickI_mem.mp hx
      simpa using h
    · have := hB.2 x hx
      refine pickI_mem.mpr ⟨x.toNat, by omega, by omega, ?_⟩
      rw [show ((x.toNat : Nat) : Int) = x by omega]
      simpa using hx
  rw [List.length_map] at e
  exact e
theorem base_hold (L : List Int) : Hold hs.length (baseL hs L) := Asc.hold (pickI_asc _ _)
theorem full_hold (B : List Int) : Hold (t * hs.length) (fullL hs t B) := Asc.hold (pickI_asc _ _)
theorem le_full {L : List Int} (hL : Hold (t * hs.length) L) : L.length ≤ t * (baseL hs L).length := by
  rw [← full_len (base_hold L)]
  refine nodup_sub hL.1 fun y hy => ?_
  have h1 := hL.2 y hy
  have hn : 0 < hs.length := by
    rcases Nat.eq_zero_or_pos hs.length with z | z
    · rw [z] at h1; simp at h1; omega
    · exact z
  refine pickI_mem.mpr ⟨y.toNat, by omega, by omega, ?_⟩
  have : ((y.toNat % hs.length : Nat) : Int) ∈ baseL hs L := base_mem.mpr ⟨_, rfl, Nat.mod_lt _ hn, y, hy, rfl⟩
  simpa using this
theorem base_full (h1 : 1 ≤ t) {B : List Int} (hB : Hold hs.length B) {x : Int} : x ∈ baseL hs (fullL hs t B) ↔ x ∈ B := by
  rw [base_mem]
  constructor
  · rintro ⟨p, rfl, hp, y, hy, e⟩
    obtain ⟨j, rfl, hj, h⟩ := pickI_mem.mp hy
    rw [Int.toNat_natCast] at e
    rw [e] at h
    simpa using h
  · intro hx
    have := hB.2 x hx
    have hlt : x.toNat < t * hs.length := Nat.lt_of_lt_of_le (show x.toNat < hs.length by omega) (Nat.le_mul_of_pos_left _ h1)
    refine ⟨x.toNat, by omega, by omega, x, pickI_mem.mpr ⟨x.toNat, by omega, hlt, ?_⟩, Nat.mod_eq_of_lt (by omega)⟩
    rw [Nat.mod_eq_of_lt (by omega), show ((x.toNat : Nat) : Int) = x by omega]
    simpa using hx
theorem touch_same {L L' : List Int} (h : ∀ x, x ∈ L ↔ x ∈ L') (q : Pr) : touch hs L q = touch hs L' q := by
  rw [Bool.eq_iff_iff, touch_iff, touch_iff]
  exact exists_congr fun x => and_congr_left fun _ => h x
theorem places_same {L L' : List Int} (h : ∀ x, x ∈ L ↔ x ∈ L') : placesP caps hs L = placesP caps hs L' := by
  unfold placesP
  exact sumP_same fun q _ => by unfold gP; rw [touch_same h]
/-- lacks of the laid out pool -/
theorem Laid.lack_le (l : Laid caps hs sp wide rows t) (ok : PoolOk caps hs m) {L : List Int} (hL : Hold (t * hs.length) L) : (L.length : Int) - placesP wide rows L ≤ (((baseL hs L).length : Int) - placesP caps hs (baseL hs L)) * (t : Int) := by
  rw [l.places ok hL, Int.sub_mul]
  have h1 := le_full hL
  have h2 : ((t * (baseL hs L).length : Nat) : Int) = ((baseL hs L).length : Int) * (t : Int) := by rw [Int.natCast_mul, Int.mul_comm]
  omega
theorem Laid.lack_full (l : Laid caps hs sp wide rows t) (ok : PoolOk caps hs m) {B : List Int} (hB : Hold hs.length B) : ((fullL hs t B).length : Int) - placesP wide rows (fullL hs t B) = ((B.length : Int) - placesP caps hs B) * (t : Int) := by
  rw [l.places ok (full_hold B), places_same (fun x => base_full l.t1 hB), full_len hB, Int.sub_mul, Int.natCast_mul, Int.mul_comm]
end
end Zc
end

section
set_option Elab.async false
set_option linter.all false
set_option maxRecDepth 100000
set_option autoImplicit false
set_option maxHeartbeats 2000000
/-! The open pairs of a pool laid out. -/
namespace Zc
open PySem L2 Zk
section
variable {caps : List Int} {hs : List (List Int)} {sp wide : List Int} {rows : List (List Int)} {t m : Nat}
theorem Laid.lackP (l : Laid caps hs sp wide rows t) (ok : PoolOk caps hs m) : Zc.lackP wide rows = Zc.lackP caps hs * (t : Int) := by
  obtain ⟨a1, a2, a3⟩ := lack_fold (caps := caps) (hs := hs) (lotsL hs.length) 0
  obtain ⟨b1, b2, b3⟩ := lack_fold (caps := wide) (hs := rows) (lotsL rows.length) 0
  have ea : (lotsL hs.length).foldl (lackStep caps hs) 0 = Zc.lackP caps hs := rfl
  have eb : (lotsL rows.length).foldl (lackStep wide rows) 0 = Zc.lackP wide rows := rfl
  rw [ea] at a1 a2 a3
  rw [eb] at b1 b2 b3
  rw [l.len] at b2 b3
  have ht : (0 : Int) ≤ (t : Int) := by omega
  refine Int.le_antisymm ?_ ?_
  · rcases b3 with z | ⟨L, hL, z⟩
    · rw [z]; exact Int.mul_nonneg a1 ht
    · rw [z]
      refine Int.le_trans (l.lack_le ok (lotsL_hold hL)) (Int.mul_le_mul_of_nonneg_right (a2 _ ?_) ht)
      exact lotsL_pick _ hs.length
  · rcases a3 with z | ⟨L, hL, z⟩
    · rw [z, Int.zero_mul]; exact b1
    · rw [z, ← l.lack_full ok (lotsL_hold hL)]
      exact b2 _ (lotsL_pick _ (t * hs.length))
end
end Zc
end

section
set_option Elab.async false
set_option linter.all false
set_option maxRecDepth 100000
set_option maxHeartbeats 4000000
/-! The pool laid out on twelve seats, as a program. -/
namespace Zc
open PySem L2 Zk
section
variable {caps : List Int} {hs : List (List Int)} {m : Nat}
/-- the seats, as far as k -/
structure SpL (sp : List Int) (k : Nat) : Prop where
  len : sp.length = k
  rng : ∀ j : Int, 0 ≤ j → j < (k : Nat) → 0 ≤ at_ sp j ∧ at_ sp j ≤ 3 + 2 * j
  inc : ∀ i j : Int, 0 ≤ i → i < j → j < (k : Nat) → at_ sp i < at_ sp j
theorem SpL.more {sp : List Int} {k : Nat} (s : SpL sp k) (h1 : 1 ≤ k) {d : Int} (hd : 0 ≤ d ∧ d < 2) : SpL (sp ++ [at_ sp ((k : Int) - 1) + 1 + d]) (k + 1) := by
  have hl := s.len
  have old : ∀ j : Int, 0 ≤ j → j < (k : Nat) → at_ (sp ++ [at_ sp ((k : Int) - 1) + 1 + d]) j = at_ sp j := fun j h0 hj => by
    have := at_get (xs := sp) h0 (by omega)
    exact at_eq (m := j.toNat) (by omega) (by rw [List.getElem?_append_left (by omega)]; exact this)
  have new : at_ (sp ++ [at_ sp ((k : Int) - 1) + 1 + d]) (k : Int) = at_ sp ((k : Int) - 1) + 1 + d := at_eq (m := k) rfl (by rw [List.getElem?_append_right (by omega), hl, Nat.sub_self]; rfl)
  have hb := s.rng ((k : Int) - 1) (by omega) (by omega)
  refine ⟨by rw [List.length_append, hl]; rfl, fun j h0 hj => ?_, fun i j h0 hij hj => ?_⟩
  · by_cases e : j < (k : Nat)
    · rw [old j h0 e]; exact s.rng j h0 e
    · rw [show j = (k : Int) by omega, new]; omega
  · by_cases e : j < (k : Nat)
    · rw [old j (by omega) e, old i h0 (by omega)]; exact s.inc i j h0 hij e
    · rw [show j = (k : Int) by omega, new, old i h0 (by omega)]
      by_cases e2 : i = (k : Int) - 1
      · rw [e2]; omega
      · have := s.inc i ((k : Int) - 1) h0 (by omega) (by omega); omega
end
end Zc
end

section
set_option Elab.async false
set_option linter.all false
set_option maxRecDepth 100000
set_option maxHeartbeats 4000000
/-! The least lot of greatest lack. -/
namespace Zc
open PySem L2 Zk
def t_rest : SF :=
 (sRet (d2 subD (d2 ixD (dVar 0) (dVar 2)) (d1 Zq.sumVD (d2 ixD (dVar 1) (dVar 2)))))
def g_rest : PF := runG 0 (t_rest)
section
variable {g : Gm} {d e : D} {ds es : List D} {i : Nat} {q : Pr} {kvs more : List (Key × D)} {tvs : List (List Key × D)} {o : Option Wd} {a k : DF}
end
/-! ### what is reached -/
inductive Rch (n : Nat) (ls : List (List Pr)) (rw : Nat → List (List Key × D)) (rv : Nat → Int) : Nat → Prop
  | base {k : Nat} : k < n → 0 < rv k → Rch n ls rw rv k
  | step {k j : Nat} {q : Pr} : Rch n ls rw rv k → q ∈ at_ ls (k : Int) → j < n → (getK (rw j) (prK q)).isSome = true → Rch n ls rw rv j
/-- what the search knows -/
structure Bfr (n : Nat) (ls : List (List Pr)) (rw : Nat → List (List Key × D)) (rv : Nat → Int) (tk : Tk) (lv : List (Int × D)) : Prop where
  hold : Hold n (lv.map (·.1))
  rch : ∀ k : Nat, (k : Int) ∈ lv.map (·.1) → Rch n ls rw rv k
  base : ∀ k : Nat, k < n → 0 < rv k → (k : Int) ∈ lv.map (·.1)
  out : ∀ q ∈ keys tk, ∀ j : Nat, j < n → (getK (rw j) (prK q)).isSome = true → (j : Int) ∈ lv.map (·.1)
def comeL (n : Nat) (rw : Nat → List (List Key × D)) (lv : List (Int × D)) (q : Pr) : List Int := pickI n fun j => (getK (rw j) (prK q)).isSome && !decide ((j : Int) ∈ lv.map (·.1))
theorem Bfr.more {n : Nat} {ls : List (List Pr)} {rw : Nat → List (List Key × D)} {rv : Nat → Int} {tk : Tk} {lv : List (Int × D)} (b : Bfr n ls rw rv tk lv) {k : Nat} (hk : (k : Int) ∈ lv.map (·.1)) {q : Pr} (hq : q ∈ at_ ls (k : Int)) (p : Int) (d : D) :
    Bfr n ls rw rv (tk ++ [(q, p)]) (lv ++ (comeL n rw lv q).map fun j => (j, d)) := by
  have e : (lv ++ (comeL n rw lv q).map fun j => (j, d)).map (·.1) = lv.map (·.1) ++ comeL n rw lv q := by
    rw [List.map_append, List.map_map]
    congr 1
    exact List.map_id _
  have hc : Asc n (comeL n rw lv q) := pickI_asc n _
  refine ⟨?_, ?_, ?_, ?_⟩
  · rw [e]
    refine ⟨List.nodup_append.mpr ⟨b.hold.1, hc.nodup, fun x hx y hy z => ?_⟩, fun x hx => ?_⟩
    · subst z
      obtain ⟨i, rfl, h1, h2⟩ := pickI_mem.mp hy
      rw [Bool.and_eq_true] at h2
      rw [decide_eq_true hx] at h2
      cases h2.2
    · rcases List.mem_append.mp hx with z | z
      · exact b.hold.2 x z
      · exact hc.2 x z
  · rw [e]
    intro j hj
    rcases List.mem_append.mp hj with z | z
    · exact b.rch j z
    · obtain ⟨i, e1, h1, h2⟩ := pickI_mem.mp z
      have : j = i := by omega
      subst this
      rw [Bool.and_eq_true] at h2
      exact .step (b.rch k hk) hq h1 h2.1
  · rw [e]
    exact fun j h1 h2 => List.mem_append_left _ (b.base j h1 h2)
  · rw [e]
    intro r hr j hj h
    unfold keys at hr
    rw [List.map_append, List.mem_append] at hr
    rcases hr with z | z
    · exact List.mem_append_left _ (b.out r z j hj h)
    · have z : r = q := by simpa using z
      subst z
      by_cases w : (j : Int) ∈ lv.map (·.1)
      · exact List.mem_append_left _ w
      · refine List.mem_append_right _ (pickI_mem.mpr ⟨j, rfl, hj, ?_⟩)
        rw [h, decide_eq_false w]
        rfl
end Zc
end

section
set_option Elab.async false
set_option linter.all false
set_option maxRecDepth 100000
set_option maxHeartbeats 4000000
/-! The least lot of greatest lack, found. -/
namespace Zc
open PySem L2 Zk
local macro_rules | `(tactic| walk_at "zs") => `(tactic| simp only [beq_self_eq_true, Bool.or_false, Bool.false_or, Bool.true_or, Bool.or_true, Bool.and_false, Bool.false_and, Bool.true_and, Bool.and_true, Zc.isi_ii, Zc.isi_ib, Zc.isi_tt, Zc.isi_ll, Zc.rowsT_len, Zc.rowsL_len, Zc.is_integer_call, Zc.ix_p0, Zc.ix_p1, dgTup2_a, dgTup3_a, Bool.not_true, Bool.not_false, mul_lz, List.flatten_cons, List.flatten_nil, Int.reduceToNat, add_ll, pow10_12, pow10_18, pow10_39, pow10_41, pow10_59, pow10_60, mkLst_some, mkTup_some, List.length_cons, List.length_nil, Nat.zero_le, Nat.reduceAdd, Nat.reduceLeDiff, call1, callO1, call2, callO2, call3, callO3, call4, callO4, call5, callO5, call6, callO6, ap1_some, ap2_some, apN_some, apC_some, d1_a, d2_a, dN_a, aNil_a, aCons_a, dC_a, dVar_z, dVar_s, tDt_a, apAnd_t, apAnd_f, apOr_t, apOr_f, dAndT_a, dOrT_a, apNot_some, dNotT_a, apAndV_t, apAndV_f, dAndV_a, apOrV_t, apOrV_f, dOrV_a, apIf_t, apIf_f, dIf_a, apCh_t, apCh_f, apChain_some, dChain_a, apSeq_nx, apSeq_rt, apSeq_ct, apSeq_bk, sSeq_a, apIfS_t, apIfS_f, sIf_a, sNext_a, sCont_a, sBreak_a, apRet_some, sRet_a, apRetO_some, sRetO_a, sRetN_a, getO_z, getO_s, apRetV_some, sRetV_a, ltB_z, ltB_s, okSlot_s, apAsg_some, sAsg_a, dName_ok, apG_some, dgCons_a, dgNil_a, apAsgO_some, sAsgO_a, sApp_a, sSetI_a, apFor_some, sFor_a, dItems_a, dRng1_a, dRng2_a, apEn_some, apEn_tup, dEnum_a, sFrz_a, frzs_nil, frzs_cons, frzI_o, frzI_v, frzI_n, frzI_s, frz1_s, frzAll_nil, frzAll_o, frzAll_v, frzAll_n, peekT_a, apPk_int, apPk_bl, apPk_str, apPk_non, peekF_a, dCall_a, toO_o, dCallO_a, dMake_a, Wd_v, Wd_o, dSl_a, apSl_some, oNone_a, oSome_a, apO_some, add_ii, sub_ii, lt_ii, le_ii, gt_ii, ge_ii, eq_ii, ne_ii, neg_i, not_b, bl_b, tru_b, tru_i, tru_l, tru_t, tru_n, len_l, len_t, len_scr, abs_i, int_i, list_l, list_t, tuple_l, tuple_t, min_ii, max_ii, rev_l, items_l, items_t, iL_len, run_a, outW_rt, outW_nx, List.map_cons, List.map_nil, List.replicate, List.append_nil, List.cons_append, List.nil_append, List.set_cons_zero, List.set_cons_succ, Option.map_some])
local macro_rules | `(tactic| walk_at "zd") => `(tactic| first | ((with_reducible show okSlot _ _ = true); simp only [okSlot_s, ltB_z, ltB_s]; done) | omega | assumption | decide | (simp only [List.length_map, List.length_append, List.length_cons, List.length_nil, List.length_range, List.length_set, List.length_reverse, iL_len, Zc.rowsT_len, Zc.rowsL_len] at *; omega))
local macro_rules | `(tactic| walk_at "zz") => `(tactic| simp (disch := walk_at "zd") only [dgTup2_a, dgTup3_a, Bool.not_true, Bool.not_false, mul_lz, List.flatten_cons, List.flatten_nil, Int.reduceToNat, add_ll, pow10_12, pow10_18, pow10_39, pow10_41, pow10_59, pow10_60, mkLst_some, mkTup_some, List.length_cons, List.length_nil, Nat.zero_le, Nat.reduceAdd, Nat.reduceLeDiff, call1, callO1, call2, callO2, call3, callO3, call4, callO4, call5, callO5, call6, callO6, ap1_some, ap2_some, apN_some, apC_some, d1_a, d2_a, dN_a, aNil_a, aCons_a, dC_a, dVar_z, dVar_s, tDt_a, apAnd_t, apAnd_f, apOr_t, apOr_f, dAndT_a, dOrT_a, apNot_some, dNotT_a, apAndV_t, apAndV_f, dAndV_a, apOrV_t, apOrV_f, dOrV_a, apIf_t, apIf_f, dIf_a, apCh_t, apCh_f, apChain_some, dChain_a, apSeq_nx, apSeq_rt, apSeq_ct, apSeq_bk, sSeq_a, apIfS_t, apIfS_f, sIf_a, sNext_a, sCont_a, sBreak_a, apRet_some, sRet_a, apRetO_some, sRetO_a, sRetN_a, getO_z, getO_s, apRetV_some, sRetV_a, ltB_z, ltB_s, okSlot_s, apAsg_some, sAsg_a, dName_ok, apG_some, dgCons_a, dgNil_a, apAsgO_some, sAsgO_a, sApp_a, sSetI_a, apFor_some, sFor_a, dItems_a, dRng1_a, dRng2_a, apEn_some, apEn_tup, dEnum_a, sFrz_a, frzs_nil, frzs_cons, frzI_o, frzI_v, frzI_n, frzI_s, frz1_s, frzAll_nil, frzAll_o, frzAll_v, frzAll_n, peekT_a, apPk_int, apPk_bl, apPk_str, apPk_non, peekF_a, dCall_a, toO_o, dCallO_a, dMake_a, Wd_v, Wd_o, dSl_a, apSl_some, oNone_a, oSome_a, apO_some, add_ii, sub_ii, lt_ii, le_ii, gt_ii, ge_ii, eq_ii, ne_ii, neg_i, not_b, bl_b, tru_b, tru_i, tru_l, tru_t, tru_n, len_l, len_t, len_scr, abs_i, int_i, list_l, list_t, tuple_l, tuple_t, min_ii, max_ii, rev_l, items_l, items_t, iL_len, run_a, outW_rt, outW_nx, List.map_cons, List.map_nil, List.replicate, List.append_nil, List.cons_append, List.nil_append, List.set_cons_zero, List.set_cons_succ, Option.map_some, Int.reduceAdd, Int.reduceMul, Int.reduceSub, Int.reduceNeg, beq_self_eq_true, Bool.or_false, Bool.false_or, Bool.true_or, Bool.or_true, Bool.and_false, Bool.false_and, Bool.true_and, Bool.and_true, Zc.isi_ii, Zc.isi_ib, Zc.isi_tt, Zc.isi_ll, Zc.rowsT_len, Zc.rowsL_len, Zc.is_integer_call, Zc.ix_p0, Zc.ix_p1, apR1_any, Int.toNat_natCast, apR2_some, mod_ii, fdiv_ii, mul_small, apApp_some, ix_at, ix_atT, ix_atI, ix_atIT, ix_atR, ix_atRT, List.length_map, List.length_append, List.length_range, List.length_set, Option.map_none, Option.map_map, decide_true, decide_false, peekO_a, apPkO_i, frz_wo, frz_wv, frz_kk, wipeG_nil, wipeG_cons, orB_s, orB_t, orB_f, andB_s, andB_t, andB_f, orV_s, orV_t, orV_f, andV_s, andV_t, andV_f, apOr_b, apAnd_b, apOrV_b, apAndV_b, apCh_b, Zc.cut_from, Zc.cut_to, in_l, in_t, in_pr, eq_op_op, eq_op_pr, eq_pr_op, eq_pr_pr, ne_op_op, ne_op_pr, ne_pr_op, ne_pr_pr, isnt_op, is_op, pr_0, pr_1, st_0, st_1, inP_pr, ninP_pr, nin_l, isi_prt, len_pr, op_some, prD_eq, ix_lit2, ix_lit3, ix_lit4, ix_lit5, ix_lit6, ix_lit7, ix_lit8, ix_lit9, ix_lit10, ix_lit11, ix_lit12, ix_lit13, ix_lit14, ix_lit15, setI_i, setI_p, setI_o, setI_n, snoc_i, snoc_r, snoc_p, snoc_n, snoc_o, snoc_pp, snoc_s, eq_ol, ne_ol, eq_pl, ne_pl, eq_sl, ne_sl, eq_il, ne_il, eq_rl, ne_rl, eq_il1, isi_bb, eq_bb, ne_bb, eq_self, Option.bind_some, dgTup2_a])
local macro_rules | `(tactic| walk_at "zf") => `(tactic| first | (walk_at "zz"; done) | (walk_at "zz"; rfl) | rfl)
local macro_rules | `(tactic| walk_at "lc") => `(tactic| ((case hf => rfl); (case hi => first | (walk_at "zz"; done) | (walk_at "zz"; rfl) | rfl); (case hl => walk_at "zd"); (case h => (intro a ha; refine ⟨_, dName_ok rfl, ?_, fun hT => ?_⟩ <;> walk_at "zz" <;> rfl))))
local macro_rules | `(tactic| walk_at "lm") => `(tactic| ((case hf => rfl); (case hi => first | (walk_at "zz"; done) | (walk_at "zz"; rfl) | rfl); (case hl => walk_at "zd"); (case h => (intro a ha; refine ⟨_, dName_ok rfl, ?_⟩; walk_at "zz"; rfl))))
section
variable {caps : List Int} {hs : List (List Int)} {m : Nat} {dl : List (Option Pr)}
theorem rest_spec {cs : List D} {A : List D} {k : Nat} {x : Int} {kvs : List (List Key × D)} {ns : List Int} (h1 : cs[k]? = some (.int x)) (h2 : A[k]? = some (.dct kvs)) (h3 : asInts (kvs.map (·.2)) = some ns) :
    g_rest [.lst cs, .lst A, .int (k : Int)] = some (.v (.int (x - ns.sum))) := by
  unfold g_rest t_rest
  walk_at "zz"
  rw [ix_l h1, ix_l h2]
  rw [show ap1 Zq.sumVD (some (.dct kvs)) = some (.int ns.sum) by show (asInts (kvs.map (·.2))).map _ = _; rw [h3]; rfl]
  walk_at "zz"
end
end Zc
end

section
set_option Elab.async false
set_option linter.all false
set_option maxRecDepth 100000
set_option maxHeartbeats 4000000
/-! Least lots: one only; of a pool laid out. -/
namespace Zc
open PySem L2 Zk
theorem asc_eq {n : Nat} {A B : List Int} (a : Asc n A) (b : Asc n B) (h : ∀ x, x ∈ A ↔ x ∈ B) : A = B :=
  perm_sorted ((List.perm_ext_iff_of_nodup a.nodup b.nodup).mpr h) (a.1.imp fun q => by omega) (b.1.imp fun q => by omega)
section
variable {caps : List Int} {hs : List (List Int)} {m : Nat} {dl : List (Option Pr)}
/-- of greatest lack -/
def Gl (caps : List Int) (hs : List (List Int)) (L : List Int) : Prop := (L.length : Int) - placesP caps hs L = lackP caps hs
structure LeastLot (caps : List Int) (hs : List (List Int)) (S : List Int) : Prop where
  asc : Asc hs.length S
  gl : Gl caps hs S
  sub : ∀ L, Hold hs.length L → Gl caps hs L → ∀ x ∈ S, x ∈ L
theorem LeastLot.one {S S' : List Int} (a : LeastLot caps hs S) (b : LeastLot caps hs S') : S = S' :=
  asc_eq a.asc b.asc fun x => ⟨a.sub S' (Asc.hold b.asc) b.gl x, b.sub S (Asc.hold a.asc) a.gl x⟩
/-! ### laid out -/
variable {sp wide : List Int} {rows : List (List Int)} {t : Nat}
end
end Zc
end

section
set_option Elab.async false
set_option linter.all false
set_option maxRecDepth 100000
set_option maxHeartbeats 4000000
/-! The pairs of a lot; its lack; a greatest dealing judged. -/
namespace Zc
open PySem L2 Zk
section
variable {caps : List Int} {hs : List (List Int)} {m : Nat}
theorem DealOk.deal {dl : List (Option Pr)} (ok : PoolOk caps hs m) (d : DealOk caps hs dl) : IsDeal caps hs dl where
  len := d.len
  held := fun p q e => by
    obtain ⟨h, h1, h2⟩ := d.held p q e
    have ha := ok.asc h (List.mem_of_getElem? h1)
    have := (heldP_mem ha q).mp h2
    have e2 : at_ hs (p : Int) = h := at_eq rfl h1
    rw [e2]
    exact ⟨this.2.2.1, this.1, this.2.1⟩
  room := fun q hq => by
    rcases d.room q with z | z
    · have := List.count_pos_iff.mpr hq
      omega
    · exact z
theorem IsDeal.ok {dl : List (Option Pr)} (ok : PoolOk caps hs m) (d : IsDeal caps hs dl) : DealOk caps hs dl where
  len := d.len
  held := fun p q e => by
    obtain ⟨h1, h2, h3⟩ := d.held p q e
    have hp : p < hs.length := by rw [← d.len]; exact (List.getElem?_eq_some_iff.mp e).1
    have hr := d.room q (List.mem_of_getElem? e)
    have hc := List.count_pos_iff.mpr (List.mem_of_getElem? e)
    exact ⟨_, hs_at hp, (heldP_mem (ok.asc _ (at_mem (by omega) (by omega))) q).mpr ⟨h2, h3, h1, by omega⟩⟩
  room := fun q => by
    by_cases hq : some q ∈ dl
    · exact .inr (d.room q hq)
    · exact .inl (List.count_eq_zero.mpr hq)
end
end Zc
end

section
set_option Elab.async false
set_option linter.all false
set_option maxRecDepth 100000
set_option maxHeartbeats 4000000
/-! Texts as lists of codes: what operations on them are worth as data. -/
namespace Zj
open PySem L2 Zk Zc
open SX (S)
/-- the text of these codes -/
def dS (l : List Nat) : D := .str (SX.S l)
def codes (s : String) : List Nat := s.toList.map Char.toNat
theorem lit (s : String) : D.str (Str.ofString s) = dS (codes s) := congrArg D.str (TL.ext_tl (TL.tl_ofString s))
theorem add_S {a b : List Nat} (h : a.length + b.length ≤ 100000) : addD (dS a) (dS b) = some (dS (a ++ b)) := by
  show (if (S a).length + (S b).length ≤ 100000 then some (D.str (S a ++ S b)) else none) = _
  rw [SX.S_len, SX.S_len, if_pos h, SX.S_cat] <;> rfl
def asc (a : List Nat) : Bool := a.all (· < 128)
theorem asc_mem {a : List Nat} (h : asc a = true) {c : Nat} (hc : c ∈ a) : c < 128 := of_decide_eq_true (List.all_eq_true.mp h c hc)
theorem asc_app {a b : List Nat} (ha : asc a = true) (hb : asc b = true) : asc (a ++ b) = true := by
  unfold asc at *
  rw [List.all_append, ha, hb] <;> rfl
theorem strOk_S {a : List Nat} (h : asc a = true) : PyData.strOk (S a) = true := by
  unfold PyData.strOk
  rw [← Array.all_toList]
  refine List.all_eq_true.mpr fun c hc => ?_
  have := asc_mem h hc
  simp
  omega
theorem eqB_S {a b : List Nat} (ha : asc a = true) (hb : asc b = true) : eqB (dS a) (dS b) = some (decide (a = b)) := by
  show (if SeqAt.shaped (.str (S a)) && SeqAt.shaped (.str (S b)) then some (PyData.eqv (.str (S a)) (.str (S b))) else none) = _
  have e : ∀ x : List Nat, asc x = true → SeqAt.shaped (.str (S x)) = true := fun x hx => by
    show (PyData.strOk (S x) && decide (0 ≤ 64)) = true
    rw [strOk_S hx] <;> rfl
  rw [e a ha, e b hb]
  show some (S a == S b) = _
  rw [SX.S_beq_eq]
theorem eq_S {a b : List Nat} (ha : asc a = true) (hb : asc b = true) : eqD (dS a) (dS b) = some (.bl (decide (a = b))) := by
  unfold eqD
  rw [eqB_S ha hb] <;> rfl
theorem ne_S {a b : List Nat} (ha : asc a = true) (hb : asc b = true) : neD (dS a) (dS b) = some (.bl (!decide (a = b))) := by
  unfold neD
  rw [eqB_S ha hb] <;> rfl
theorem tru_S {a : List Nat} (h : a.length ≤ 100000) : truD (dS a) = some (!a.isEmpty) := by
  show (if (S a).length ≤ 100000 then some (((S a).length : Int) != 0) else none) = _
  rw [SX.S_len, if_pos h]
  cases a with
  | nil => rfl
  | cons x a =>
    congr 1
theorem len_S {a : List Nat} (h : a.length ≤ 100000) : lenD [dS a] = some (.int (a.length : Nat)) := by
  show (if (S a).length ≤ 100000 then some (D.int ((S a).length : Nat)) else none) = _
  rw [SX.S_len, if_pos h]
/-! ### numbers -/
def num (c : Int) : List Nat := TL.numL c.toNat
theorem num_nat (n : Nat) : num (n : Int) = TL.numL n := by unfold num; rw [Int.toNat_natCast]
theorem log2_lt {n k : Nat} (hk : 0 < k) (h : n < 2 ^ k) : n.log2 < k := by
  by_cases h0 : n = 0
  · subst h0; exact hk
  · exact (Nat.log2_lt h0).mpr h
theorem num_log {c : Int} (h0 : 0 ≤ c) (h : c < 10 ^ 60) : c.natAbs.log2 < 1920 := by
  have h1 : c.natAbs < 10 ^ 60 := by omega
  exact Nat.lt_of_lt_of_le (log2_lt (k := 200) (by decide) (Nat.lt_of_lt_of_le h1 (by decide))) (by decide)
theorem str_num {c : Int} (h0 : 0 ≤ c) (h : c < 10 ^ 60) : strD [.int c] = some (dS (num c)) := by
  show (if c.natAbs.log2 < 1920 then some (D.str (toString c)) else none) = _
  rw [if_pos (num_log h0 h)]
  obtain ⟨n, rfl⟩ := Int.eq_ofNat_of_zero_le h0
  rw [num_nat]
  exact congrArg (fun z => some (D.str z)) (SX.num_S n)
theorem num_len {c : Int} (h0 : 0 ≤ c) (h : c < 10 ^ 60) : (num c).length ≤ 60 := TL.numL_len (by decide) (by omega)
theorem num_ne (c : Int) : num c ≠ [] := TL.numL_ne _
theorem num_free {c : Int} {s : Nat} (h : s < 48 ∨ 57 < s) : s ∉ num c := TL.numL_free h
def dig (c : Nat) : Bool := decide (48 ≤ c) && decide (c ≤ 57)
theorem num_dig (c : Int) : (num c).all dig = true := List.all_eq_true.mpr fun x hx => by
  have := TL.numL_digits c.toNat x hx
  unfold dig
  rw [Bool.and_eq_true, decide_eq_true_eq, decide_eq_true_eq]
  exact this
theorem num_zero {c : Int} (h0 : 0 ≤ c) (h : (num c).head? = some 48) : c = 0 := by
  obtain ⟨n, rfl⟩ := Int.eq_ofNat_of_zero_le h0
  rw [num_nat] at h
  have key : ∀ n : Nat, (TL.numL n).head? = some 48 → n = 0 := fun n => by
    induction n using Nat.strongRecOn with
    | _ n ih =>
      intro h
      by_cases h10 : n < 10
      · rw [TL.numL_lt h10] at h
        simp at h
        exact h
      · rw [TL.numL_step (by omega), List.head?_append] at h
        cases e : (TL.numL (n / 10)).head? with
        | none => exact absurd (List.head?_eq_none_iff.mp e) (TL.numL_ne _)
        | some x =>
          rw [e] at h
          have hx : x = 48 := by simpa using h
          have := ih (n / 10) (by omega) (by rw [e, hx])
          omega
  rw [key n h]
  rfl
theorem isDigit_asc {c : Nat} (h : c < 128) : Unicode.isDigit c = dig c := by
  rw [PyProof.Rows.cls_isdigit c h]
  revert c
  decide +kernel
theorem isdigit_S {a : List Nat} (h : ∀ c ∈ a, c < 128) : isdigitD (S a) = some (.bl (!a.isEmpty && a.all dig)) := by
  show some (D.bl (decide ((S a).length > 0) && (S a).cps.all Unicode.isDigit)) = _
  rw [SX.S_len, ← Array.all_toList]
  show some (D.bl (decide (a.length > 0) && a.all Unicode.isDigit)) = _
  have e1 : a.all Unicode.isDigit = a.all dig := by
    rw [Bool.eq_iff_iff, List.all_eq_true, List.all_eq_true]
    exact ⟨fun q x hx => by rw [← isDigit_asc (h x hx)]; exact q x hx, fun q x hx => by rw [isDigit_asc (h x hx)]; exact q x hx⟩
  rw [e1]
  cases a with
  | nil => rfl
  | cons x a => simp
theorem starts_S (a b : List Nat) : startsD (S a) (dS b) = some (.bl (decide (a.take b.length = b))) := by
  show some (D.bl (decide (0 + (S b).length ≤ (S a).length) && Builtin.Str.subAt (S a) (S b) 0)) = _
  rw [SX.S_len, SX.S_len, StrLaws.subAt_eq, SX.S_len, Nat.zero_add]
  show some (D.bl (decide (b.length ≤ a.length) && (((a.drop 0).take b.length) == b))) = _
  rw [List.drop_zero]
  congr 2
  by_cases e : a.take b.length = b
  · have : b.length ≤ a.length := by
      have := congrArg List.length e
      rw [List.length_take] at this
      omega
    rw [decide_eq_true this, decide_eq_true e, e]
    simp
  · rw [decide_eq_false e]
    have : (a.take b.length == b) = false := by
      cases z : (a.take b.length == b) with
      | false => rfl
      | true => exact absurd (eq_of_beq z) e
    rw [this, Bool.and_false]
/-- a word that is a number: digits, and no 0 ahead of others -/
def isNum (a : List Nat) : Bool := (!a.isEmpty && a.all dig) && (decide (a = [48]) || !decide (a.take 1 = [48]))
theorem isNum_num {c : Int} (h0 : 0 ≤ c) : isNum (num c) = true := by
  unfold isNum
  rw [num_dig]
  have e1 : (num c).isEmpty = false := by
    cases e : num c with
    | nil => exact absurd e (num_ne c)
    | cons x a => rfl
  rw [e1]
  by_cases e : (num c).take 1 = [48]
  · have hc : c = 0 := num_zero h0 (by
      cases q : num c with
      | nil => exact absurd q (num_ne c)
      | cons x a => rw [q] at e; simpa using e)
    rw [hc]
    decide
  · rw [decide_eq_false e]
    simp
/-! ### split, join, slices, partition -/
theorem sL_S (ls : List (List Nat)) : sL (ls.map S) = ls.map dS := by unfold sL; rw [List.map_map]; rfl
theorem split_S {a b : List Nat} (hb : b ≠ []) (hk : b.all (· < 256) = true) (h : a.length ≤ 100000) : splitD (S a) (dS b) = some (.lst ((TL.spl b 0 [] a).map dS)) := by
  show (if ((S b).length == 0) = false ∧ (S a).length ≤ 100000 then some (D.lst (sL (Txt.split (S a) (S b)))) else none) = _
  rw [SX.S_len, SX.S_len, if_pos ⟨by cases b with | nil => exact absurd rfl hb | cons x b => rfl, h⟩, SX.split_S hb hk, sL_S]
theorem asStrs_S : ∀ ls : List (List Nat), asStrs (ls.map dS) = some (ls.map S)
  | [] => rfl
  | l :: ls => by
    show (asStrs (ls.map dS)).map (S l :: ·) = _
    rw [asStrs_S ls] <;> rfl
theorem join_S {a : List Nat} {ls : List (List Nat)} (h : (ls.map List.length).sum + ls.length * a.length ≤ 100000) : joinD (S a) (.lst (ls.map dS)) = some (dS (TL.joinL a ls)) := by
  show ((asStrs (ls.map dS)).bind fun ys => if (ys.map (·.length)).sum + ys.length * (S a).length ≤ 100000 then some (D.str (Txt.join (S a) ys)) else none) = _
  rw [asStrs_S, Option.bind_some, SX.lens, List.length_map, SX.S_len, if_pos h, SX.join_S] <;> rfl
theorem joinL_nil : ∀ ls : List (List Nat), TL.joinL [] ls = ls.flatten
  | [] => rfl
  | [p] => by show p = [p].flatten; simp
  | p :: q :: r => by
    show p ++ ([] ++ TL.joinL [] (q :: r)) = _
    rw [joinL_nil (q :: r)]
    rfl
theorem joinL_cons (s p : List Nat) : ∀ ls : List (List Nat), TL.joinL s (p :: ls) = p ++ ls.flatMap (s ++ ·)
  | [] => by show p = _; simp
  | q :: r => by
    show p ++ (s ++ TL.joinL s (q :: r)) = _
    rw [joinL_cons s q r, List.flatMap_cons, List.append_assoc]
theorem at_nat {α : Type} {a : List α} {n : Nat} (hn : n < a.length) : atI a (n : Int) = some a[n] := by
  unfold atI
  have e : ixN a.length (n : Int) = some n := by
    unfold ixN
    rw [if_pos (by omega), Int.toNat_natCast] <;> simp [hn]
  rw [e]
  exact List.getElem?_eq_getElem hn
theorem ixS {a : List Nat} {i : Int} (ha : a.length ≤ 100000) (h0 : 0 ≤ i) (h : i < (a.length : Nat)) : ixD (dS a) (.int i) = some (dS [a.getD i.toNat 0]) := by
  show (if (S a).length ≤ 100000 then (atI (S a).cps.toList i).map fun c => D.str ⟨#[c]⟩ else none) = _
  rw [SX.S_len, if_pos ha]
  have e : atI (S a).cps.toList i = some (a.getD i.toNat 0) := by
    show atI a i = _
    obtain ⟨n, rfl⟩ := Int.eq_ofNat_of_zero_le h0
    have hn : n < a.length := by omega
    rw [Int.toNat_natCast, List.getD_eq_getElem?_getD, List.getElem?_eq_getElem hn]
    show atI a (n : Int) = some a[n]
    exact at_nat hn
  rw [e]
  rfl
/-! ### walking -/
def apM0 (f : Str → Option D) : Option D → Option D := fun x => x.bind fun x => match x with
  | .str s => f s
  | _ => none
def apM1 (f : Str → D → Option D) : Option D → Option D → Option D := fun x y => x.bind fun x => match x with
  | .str s => y.bind fun y => f s y
  | _ => none
theorem dM0_a {f : Str → Option D} {a : DF} {g : Gm} : dM0 f a g = apM0 f (a g) := rfl
theorem dM1_a {f : Str → D → Option D} {a b : DF} {g : Gm} : dM1 f a b g = apM1 f (a g) (b g) := rfl
theorem apM0_S {f : Str → Option D} {l : List Nat} : apM0 f (some (dS l)) = f (S l) := rfl
theorem apM1_S {f : Str → D → Option D} {l : List Nat} {y : D} : apM1 f (some (dS l)) (some y) = f (S l) y := rfl
def apStar (n i : Nat) (r : DGFs) (x : Option D) : SF := fun g => x.bind fun x => match x with
  | .lst ds => if n ≤ ds.length + 1 ∧ ds.length ≤ 16384 then (r (ds.take i ++ [.lst ((ds.drop i).take (ds.length + 1 - n))] ++ (ds.drop i).drop (ds.length + 1 - n)) g).map .nx else none
  | _ => none
theorem sStar_a {a : DF} {n i : Nat} {r : DGFs} {g : Gm} : sStar a n i r g = apStar n i r (a g) g := rfl
theorem star_first {ys : List D} {y : D} {r : DGFs} {g : Gm} (h : ys.length ≤ 16000) : apStar 2 1 r (some (.lst (y :: ys))) g = (r [y, .lst ys] g).map .nx := by
  show (if 2 ≤ (y :: ys).length + 1 ∧ (y :: ys).length ≤ 16384 then (r ((y :: ys).take 1 ++ [.lst (((y :: ys).drop 1).take ((y :: ys).length + 1 - 2))] ++ ((y :: ys).drop 1).drop ((y :: ys).length + 1 - 2)) g).map Out.nx else none) = _
  rw [List.length_cons, if_pos (by omega), show ys.length + 1 + 1 - 2 = ys.length by omega]
  show (r ([y] ++ [.lst (ys.take ys.length)] ++ ys.drop ys.length) g).map _ = _
  rw [List.take_length, List.drop_length] <;> rfl
end Zj
end

section
set_option Elab.async false
set_option linter.all false
set_option maxRecDepth 100000
set_option maxHeartbeats 4000000
/-! The texts of pools. -/
namespace Zd
open PySem L2 Zk Zc Zj
def t_is_number : SF :=
 (sRet (dAndV (Zj.dM0 Zj.isdigitD (dVar 0)) (dOrV (d2 eqD (dVar 0) (dC (.str "0"))) (d1 notD (Zj.dM1 Zj.startsD (dVar 0) (dC (.str "0")))))))
def g_is_number : PF := runG 0 (t_is_number)
local macro_rules | `(tactic| walk_at "zs") => `(tactic| simp only [beq_self_eq_true, Bool.or_false, Bool.false_or, Bool.true_or, Bool.or_true, Bool.and_false, Bool.false_and, Bool.true_and, Bool.and_true, Zc.isi_ii, Zc.isi_ib, Zc.isi_tt, Zc.isi_ll, Zc.rowsT_len, Zc.rowsL_len, Zc.is_integer_call, Zc.ix_p0, Zc.ix_p1, dgTup2_a, dgTup3_a, Bool.not_true, Bool.not_false, mul_lz, List.flatten_cons, List.flatten_nil, Int.reduceToNat, add_ll, pow10_12, pow10_18, pow10_39, pow10_41, pow10_59, pow10_60, mkLst_some, mkTup_some, List.length_cons, List.length_nil, Nat.zero_le, Nat.reduceAdd, Nat.reduceLeDiff, call1, callO1, call2, callO2, call3, callO3, call4, callO4, call5, callO5, call6, callO6, ap1_some, ap2_some, apN_some, apC_some, d1_a, d2_a, dN_a, aNil_a, aCons_a, dC_a, dVar_z, dVar_s, tDt_a, apAnd_t, apAnd_f, apOr_t, apOr_f, dAndT_a, dOrT_a, apNot_some, dNotT_a, apAndV_t, apAndV_f, dAndV_a, apOrV_t, apOrV_f, dOrV_a, apIf_t, apIf_f, dIf_a, apCh_t, apCh_f, apChain_some, dChain_a, apSeq_nx, apSeq_rt, apSeq_ct, apSeq_bk, sSeq_a, apIfS_t, apIfS_f, sIf_a, sNext_a, sCont_a, sBreak_a, apRet_some, sRet_a, apRetO_some, sRetO_a, sRetN_a, getO_z, getO_s, apRetV_some, sRetV_a, ltB_z, ltB_s, okSlot_s, apAsg_some, sAsg_a, dName_ok, apG_some, dgCons_a, dgNil_a, apAsgO_some, sAsgO_a, sApp_a, sSetI_a, apFor_some, sFor_a, dItems_a, dRng1_a, dRng2_a, apEn_some, apEn_tup, dEnum_a, sFrz_a, frzs_nil, frzs_cons, frzI_o, frzI_v, frzI_n, frzI_s, frz1_s, frzAll_nil, frzAll_o, frzAll_v, frzAll_n, peekT_a, apPk_int, apPk_bl, apPk_str, apPk_non, peekF_a, dCall_a, toO_o, dCallO_a, dMake_a, Wd_v, Wd_o, dSl_a, apSl_some, oNone_a, oSome_a, apO_some, add_ii, sub_ii, lt_ii, le_ii, gt_ii, ge_ii, eq_ii, ne_ii, neg_i, not_b, bl_b, tru_b, tru_i, tru_l, tru_t, tru_n, len_l, len_t, len_scr, abs_i, int_i, list_l, list_t, tuple_l, tuple_t, min_ii, max_ii, rev_l, items_l, items_t, iL_len, run_a, outW_rt, outW_nx, List.map_cons, List.map_nil, List.replicate, List.append_nil, List.cons_append, List.nil_append, List.set_cons_zero, List.set_cons_succ, Option.map_some])
local macro_rules | `(tactic| walk_at "zd") => `(tactic| first | ((with_reducible show okSlot _ _ = true); simp only [okSlot_s, ltB_z, ltB_s]; done) | omega | assumption | decide | (simp only [List.length_map, List.length_append, List.length_cons, List.length_nil, List.length_range, List.length_set, List.length_reverse, iL_len, Zc.rowsT_len, Zc.rowsL_len] at *; omega))
local macro_rules | `(tactic| walk_at "zz") => `(tactic| simp (disch := walk_at "zd") only [dgTup2_a, dgTup3_a, Bool.not_true, Bool.not_false, mul_lz, List.flatten_cons, List.flatten_nil, Int.reduceToNat, add_ll, pow10_12, pow10_18, pow10_39, pow10_41, pow10_59, pow10_60, mkLst_some, mkTup_some, List.length_cons, List.length_nil, Nat.zero_le, Nat.reduceAdd, Nat.reduceLeDiff, call1, callO1, call2, callO2, call3, callO3, call4, callO4, call5, callO5, call6, callO6, ap1_some, ap2_some, apN_some, apC_some, d1_a, d2_a, dN_a, aNil_a, aCons_a, dC_a, dVar_z, dVar_s, tDt_a, apAnd_t, apAnd_f, apOr_t, apOr_f, dAndT_a, dOrT_a, apNot_some, dNotT_a, apAndV_t, apAndV_f, dAndV_a, apOrV_t, apOrV_f, dOrV_a, apIf_t, apIf_f, dIf_a, apCh_t, apCh_f, apChain_some, dChain_a, apSeq_nx, apSeq_rt, apSeq_ct, apSeq_bk, sSeq_a, apIfS_t, apIfS_f, sIf_a, sNext_a, sCont_a, sBreak_a, apRet_some, sRet_a, apRetO_some, sRetO_a, sRetN_a, getO_z, getO_s, apRetV_some, sRetV_a, ltB_z, ltB_s, okSlot_s, apAsg_some, sAsg_a, dName_ok, apG_some, dgCons_a, dgNil_a, apAsgO_some, sAsgO_a, sApp_a, sSetI_a, apFor_some, sFor_a, dItems_a, dRng1_a, dRng2_a, apEn_some, apEn_tup, dEnum_a, sFrz_a, frzs_nil, frzs_cons, frzI_o, frzI_v, frzI_n, frzI_s, frz1_s, frzAll_nil, frzAll_o, frzAll_v, frzAll_n, peekT_a, apPk_int, apPk_bl, apPk_str, apPk_non, peekF_a, dCall_a, toO_o, dCallO_a, dMake_a, Wd_v, Wd_o, dSl_a, apSl_some, oNone_a, oSome_a, apO_some, add_ii, sub_ii, lt_ii, le_ii, gt_ii, ge_ii, eq_ii, ne_ii, neg_i, not_b, bl_b, tru_b, tru_i, tru_l, tru_t, tru_n, len_l, len_t, len_scr, abs_i, int_i, list_l, list_t, tuple_l, tuple_t, min_ii, max_ii, rev_l, items_l, items_t, iL_len, run_a, outW_rt, outW_nx, List.map_cons, List.map_nil, List.replicate, List.append_nil, List.cons_append, List.nil_append, List.set_cons_zero, List.set_cons_succ, Option.map_some, Int.reduceAdd, Int.reduceMul, Int.reduceSub, Int.reduceNeg, beq_self_eq_true, Bool.or_false, Bool.false_or, Bool.true_or, Bool.or_true, Bool.and_false, Bool.false_and, Bool.true_and, Bool.and_true, Zc.isi_ii, Zc.isi_ib, Zc.isi_tt, Zc.isi_ll, Zc.rowsT_len, Zc.rowsL_len, Zc.is_integer_call, Zc.ix_p0, Zc.ix_p1, apR1_any, Int.toNat_natCast, apR2_some, mod_ii, fdiv_ii, mul_small, apApp_some, ix_at, ix_atT, ix_atI, ix_atIT, ix_atR, ix_atRT, List.length_map, List.length_append, List.length_range, List.length_set, Option.map_none, Option.map_map, decide_true, decide_false, peekO_a, apPkO_i, frz_wo, frz_wv, frz_kk, wipeG_nil, wipeG_cons, orB_s, orB_t, orB_f, andB_s, andB_t, andB_f, orV_s, orV_t, orV_f, andV_s, andV_t, andV_f, apOr_b, apAnd_b, apOrV_b, apAndV_b, apCh_b, Zc.cut_from, Zc.cut_to, in_l, in_t, in_pr, eq_op_op, eq_op_pr, eq_pr_op, eq_pr_pr, ne_op_op, ne_op_pr, ne_pr_op, ne_pr_pr, isnt_op, is_op, pr_0, pr_1, st_0, st_1, inP_pr, ninP_pr, nin_l, isi_prt, len_pr, op_some, prD_eq, ix_lit2, ix_lit3, ix_lit4, ix_lit5, ix_lit6, ix_lit7, ix_lit8, ix_lit9, ix_lit10, ix_lit11, ix_lit12, ix_lit13, ix_lit14, ix_lit15, setI_i, setI_p, setI_o, setI_n, snoc_i, snoc_r, snoc_p, snoc_n, snoc_o, snoc_pp, snoc_s, eq_ol, ne_ol, eq_pl, ne_pl, eq_sl, ne_sl, eq_il, ne_il, eq_rl, ne_rl, eq_il1, isi_bb, eq_bb, ne_bb, eq_self, lit, dM1_a, apM1_S, dM0_a, apM0_S])
local macro_rules | `(tactic| walk_at "zf") => `(tactic| first | (walk_at "zz"; done) | (walk_at "zz"; rfl) | rfl)
local macro_rules | `(tactic| walk_at "lc") => `(tactic| ((case hf => rfl); (case hi => first | (walk_at "zz"; done) | (walk_at "zz"; rfl) | rfl); (case hl => walk_at "zd"); (case h => (intro a ha; refine ⟨_, dName_ok rfl, ?_, fun hT => ?_⟩ <;> walk_at "zz" <;> rfl))))
local macro_rules | `(tactic| walk_at "lm") => `(tactic| ((case hf => rfl); (case hi => first | (walk_at "zz"; done) | (walk_at "zz"; rfl) | rfl); (case hl => walk_at "zd"); (case h => (intro a ha; refine ⟨_, dName_ok rfl, ?_⟩; walk_at "zz"; rfl))))
def wSeats : List Nat := codes "seats"
def wPiece : List Nat := codes "piece"
def NumsOk (ns : List Int) : Prop := ns.length ≤ 100 ∧ ∀ n ∈ ns, 0 ≤ n ∧ n < 10 ^ 60
theorem dig_asc {a : List Nat} (h : a.all dig = true) : asc a = true := List.all_eq_true.mpr fun c hc => by
  have := List.all_eq_true.mp h c hc
  unfold dig at this
  rw [Bool.and_eq_true, decide_eq_true_eq, decide_eq_true_eq] at this
  rw [decide_eq_true_eq]
  omega
theorem num_asc (c : Int) : asc (num c) = true := dig_asc (num_dig c)
/-! ### one line -/
/-! ### the text as the law lays it -/
structure TextOk (caps : List Int) (hs : List (List Int)) : Prop where
  c : NumsOk caps
  hl : hs.length ≤ 100
  h : ∀ h ∈ hs, NumsOk h ∧ h.length ≤ 12
  cl : caps.length ≤ 12
/-! ### the text as the program writes it -/
/-! ### numbers behind a word -/
theorem is_number_spec {a : List Nat} (ha : asc a = true) : g_is_number [dS a] = some (.v (.bl (isNum a))) := by
  unfold g_is_number t_is_number
  walk_at "zz"
  rw [isdigit_S fun c hc => asc_mem ha hc]
  have e1 : eqD (dS a) (dS (codes "0")) = some (.bl (decide (a = [48]))) := eq_S ha (by decide)
  have e2 : startsD (SX.S a) (dS (codes "0")) = some (.bl (decide (a.take 1 = [48]))) := starts_S a [48]
  unfold isNum
  cases (!a.isEmpty && a.all dig)
  · walk_at "zz"
  · walk_at "zz"
    rw [e1]
    cases decide (a = [48])
    · walk_at "zz"
      rw [e2]
      walk_at "zz"
    · walk_at "zz"
def val (a : List Nat) : Int := ((NumText.digitsVal a : Nat) : Int)
theorem val_num {c : Int} (h0 : 0 ≤ c) : val (num c) = c := by
  unfold val num
  rw [TL.numL_val]
  exact Int.toNat_of_nonneg h0
theorem intS_val {a : List Nat} (h : isNum a = true) (hl : a.length ≤ 640) : intSD [dS a] = some (.int (val a)) := by
  unfold isNum at h
  rw [Bool.and_eq_true, Bool.and_eq_true] at h
  show (if (SX.S a).length ≤ 640 then (intText? (SX.S a)).map D.int else none) = _
  rw [SX.S_len, if_pos hl, SX.int_S h.1.2 (by intro z; rw [z] at h; exact absurd h.1.1 (by decide)) (by omega)]
  rfl
end Zd
end

section
set_option Elab.async false
set_option linter.all false
set_option maxRecDepth 100000
set_option maxHeartbeats 4000000
/-! Texts as lists of codes: slices, joins of single signs, fields. -/
namespace Zj
open PySem L2 Zk Zc
theorem sl_to {a : List Nat} {i : Int} (h : a.length ≤ 100000) (h0 : 0 ≤ i) : slSD (dS a) none (some i) = some (dS (a.take i.toNat)) := by
  show (if (SX.S a).length ≤ 100000 then some (D.str (Txt.slice (SX.S a) none (some i))) else none) = _
  rw [SX.S_len, if_pos h, SX.slice_to h0]
  rfl
theorem sl_from {a : List Nat} {i : Int} (h : a.length ≤ 100000) (h0 : 0 ≤ i) : slSD (dS a) (some i) none = some (dS (a.drop i.toNat)) := by
  show (if (SX.S a).length ≤ 100000 then some (D.str (Txt.slice (SX.S a) (some i) none)) else none) = _
  rw [SX.S_len, if_pos h, SX.slice_from h0]
  rfl
theorem nin_S (a : List Nat) (c : Nat) : onT ninTf (dS [c]) (dS a) = some (.bl (!decide (c ∈ a))) := by
  show some (D.bl (ninTf (SX.S [c]) (SX.S a))) = _
  unfold ninTf
  rw [SX.in_one]
def apSl : Option D → Option (Option Int) → Option (Option Int) → Option D := fun x l h => x.bind fun x => l.bind fun l => h.bind fun h => slSD x l h
theorem dSlS_w {a : DF} {lo hi : DOF} {g : Gm} : dSlS a lo hi g = apSl (a g) (lo g) (hi g) := rfl
theorem apSl_s {x : D} {l h : Option Int} : apSl (some x) (some l) (some h) = slSD x l h := rfl
theorem add_L {xs ys : List D} (h : xs.length + ys.length ≤ 100000) : addD (.lst xs) (.lst ys) = some (.lst (xs ++ ys)) := if_pos h
theorem joins_sum {b : Nat} : ∀ {ws : List (List Nat)}, (∀ p ∈ ws, p.length ≤ b) → (ws.map List.length).sum ≤ ws.length * b
  | [], _ => Nat.zero_le _
  | p :: ws, h => by
    have h1 := h p List.mem_cons_self
    have h2 := joins_sum (ws := ws) fun q hq => h q (List.mem_cons_of_mem _ hq)
    rw [List.map_cons, List.sum_cons, List.length_cons, Nat.succ_mul]
    omega
theorem flat_one : ∀ l : List Nat, (l.map fun c => [c]).flatten = l
  | [] => rfl
  | c :: l => congrArg (c :: ·) (flat_one l)
/-- single signs, joined -/
theorem join_signs {l : List Nat} (h : l.length ≤ 50000) : joinD (SX.S []) (.lst (l.map fun c => dS [c])) = some (dS l) := by
  have e : (l.map fun c => dS [c]) = (l.map fun c => [c]).map dS := by rw [List.map_map]; rfl
  have hs := joins_sum (ws := l.map fun c => [c]) (b := 1) fun p hp => by
    obtain ⟨c, _, rfl⟩ := List.mem_map.mp hp
    exact Nat.le_refl _
  rw [List.length_map] at hs
  rw [e, join_S (by rw [List.length_map]; show _ + _ * 0 ≤ _; omega), joinL_nil]
  refine congrArg (fun z => some (dS z)) ?_
  exact flat_one l
/-! ### fields of f-strings -/
/-! ### numbers that are written with signs ahead -/
end Zj
end

section
set_option Elab.async false
set_option linter.all false
set_option maxRecDepth 100000
set_option maxHeartbeats 4000000
/-! Records read: what the program's reading is worth, for any text of ASCII signs. -/
namespace Rk
open PySem L2 Zk Zc Zj Zd
def t_is_name : SF :=
 (sRet (dAndV (dChain leD leD (dC (.int 1)) (dN lenD (aCons (dVar 0) aNil)) (dC (.int 12))) (dN allD (aCons (dLc (Zra.dTxt (dVar 0)) (dName 1) dYes (dOrV (dChain (Zj.onT Zj.leTf) (Zj.onT Zj.leTf) (dC (.str "a")) (dVar 1) (dC (.str "z"))) (dChain (Zj.onT Zj.leTf) (Zj.onT Zj.leTf) (dC (.str "0")) (dVar 1) (dC (.str "9")))) [1]) aNil))))
def g_is_name : PF := runG 1 (t_is_name)
def t_is_number : SF :=
 (sRet (dAndV (Zj.dM0 Zj.isdigitD (dVar 0)) (dOrV (d2 eqD (dVar 0) (dC (.str "0"))) (d1 notD (Zj.dM1 Zj.startsD (dVar 0) (dC (.str "0")))))))
def g_is_number : PF := runG 0 (t_is_number)
def t_read_joined : SF :=
 (sSeq (sAsg (Zj.dM1 Zj.splitD (dVar 0) (dC (.str ","))) (dName 1))
 (sRet (dIf (tDt truD (dN allD (aCons (dLc (dItems (dVar 1)) (dName 2) dYes (dCall 1 (g_is_number) (aCons (dVar 2) aNil)) [2]) aNil))) (dLc (dItems (dVar 1)) (dName 2) dYes (dN Zj.intSD (aCons (dVar 2) aNil)) [2]) (dC .non))))
def g_read_joined : PF := runG 2 (t_read_joined)
def t_rise : SF :=
 (sRet (dN allD (aCons (dLc (Zq9.dZip (aCons (dVar 0) (aCons (dSl (dVar 0) (oSome (dC (.int 1))) oNone) aNil))) (dgTup 2 (dgCons (dName 1) (dgCons (dName 2) dgNil))) dYes (d2 Zra.ltA (dVar 1) (dVar 2)) [1, 2]) aNil)))
def g_rise : PF := runG 2 (t_rise)
def t_count : SF :=
 (sRet (dCall 1 (g_rise) (aCons (d2 addD (dN mkLst (aCons (dC (.int 0)) aNil)) (dVar 0)) aNil)))
def g_count : PF := runG 0 (t_count)
def t_read_name : SF :=
 (sSeq (sAsg (Zj.dM1 Zj.partD (dVar 0) (dC (.str "="))) (dgTup 3 (dgCons (dName 1) (dgCons (dName 2) (dgCons (dName 3) dgNil)))))
 (sSeq (sAsg (dIf (tDt truD (dVar 3)) (dCall 1 (g_read_joined) (aCons (dVar 3) aNil)) (dN mkLst aNil)) (dName 4))
 (sSeq (sIf (dOrT (dNotT (tDt truD (dCall 1 (g_is_name) (aCons (dVar 1) aNil)))) (dOrT (dNotT (tDt truD (dVar 2))) (dOrT (tDt blD (d2 isD (dVar 4) (dC .non))) (dNotT (tDt truD (dCall 1 (g_count) (aCons (dVar 4) aNil)))))))
 (sRet (dC .non))
 sNext)
 (sRet (dN mkTup (aCons (dVar 1) (aCons (dN tupleD (aCons (dVar 4) aNil)) aNil)))))))
def g_read_name : PF := runG 4 (t_read_name)
def t_read_warden : SF :=
 (sSeq (sAsg (Zj.dM1 Zj.partD (dVar 0) (dC (.str ":"))) (dgTup 3 (dgCons (dName 1) (dgCons (dName 2) (dgCons (dName 3) dgNil)))))
 (sSeq (sAsg (dCall 1 (g_read_joined) (aCons (dVar 3) aNil)) (dName 4))
 (sSeq (sIf (dOrT (dNotT (tDt truD (dCall 1 (g_is_number) (aCons (dVar 1) aNil)))) (dOrT (tDt blD (d2 isD (dVar 4) (dC .non))) (dOrT (tDt blD (d2 neD (dN lenD (aCons (dVar 4) aNil)) (dC (.int 2)))) (dNotT (tDt truD (dCall 1 (g_rise) (aCons (dVar 4) aNil)))))))
 (sRet (dC .non))
 sNext)
 (sRet (dN mkTup (aCons (dN Zj.intSD (aCons (dVar 1) aNil)) (aCons (d2 ixD (dVar 4) (dC (.int 0))) (aCons (d2 ixD (dVar 4) (dC (.int 1))) aNil))))))))
def g_read_warden : PF := runG 4 (t_read_warden)
def t_read_wardens : SF :=
 (sSeq (sIf (dOrT (dNotT (tDt truD (dVar 0))) (tDt blD (d2 neD (d2 ixD (dVar 0) (dC (.int 0))) (dC (.str "/")))))
 (sRet (dC .non))
 sNext)
 (sSeq (sAsg (dLc (dItems (dSl (dVar 0) (oSome (dC (.int 1))) oNone)) (dName 2) dYes (dCall 1 (g_read_warden) (aCons (dVar 2) aNil)) [2]) (dName 1))
 (sSeq (sIf (dOrT (tDt blD (d2 inPD (dC .non) (dVar 1))) (dNotT (tDt truD (dCall 1 (g_count) (aCons (dLc (dItems (dVar 1)) (dgTup 3 (dgCons (dName 3) (dgCons (dName 4) (dgCons (dName 4) dgNil)))) dYes (dVar 3) [3, 4]) aNil)))))
 (sRet (dC .non))
 sNext)
 (sRet (dN tupleD (aCons (dVar 1) aNil))))))
def g_read_wardens : PF := runG 4 (t_read_wardens)
def t_read_picture : SF :=
 (sSeq (sIf (tDt blD (d2 ninPD (dC (.str "/")) (dVar 0)))
 (sRet (dC .non))
 sNext)
 (sSeq (sAsg (d2 Zk2.idxD (dVar 0) (dC (.str "/"))) (dName 1))
 (sSeq (sAsg (dCall 1 (g_read_joined) (aCons (d2 ixD (dVar 0) (dC (.int 0))) aNil)) (dName 2))
 (sSeq (sAsg (dLc (dItems (dSl (dVar 0) (oSome (dC (.int 1))) (oSome (dVar 1)))) (dName 5) dYes (dCall 1 (g_read_name) (aCons (dVar 5) aNil)) [5]) (dName 3))
 (sSeq (sAsg (dCall 1 (g_read_wardens) (aCons (dSl (dVar 0) (oSome (dVar 1)) oNone) aNil)) (dName 4))
 (sSeq (sIf (dOrT (tDt blD (d2 isD (dVar 2) (dC .non))) (dOrT (tDt blD (d2 inPD (dC .non) (dVar 3))) (dOrT (tDt blD (d2 isD (dVar 4) (dC .non))) (dNotT (tDt truD (dCall 1 (g_rise) (aCons (dLc (dItems (dVar 3)) (dgTup 2 (dgCons (dName 6) (dgCons (dName 7) dgNil))) dYes (dVar 6) [6, 7]) aNil)))))))
 (sRet (dC .non))
 sNext)
 (sRet (dN mkTup (aCons (dC (.str "picture")) (aCons (dN tupleD (aCons (dVar 2) aNil)) (aCons (dN tupleD (aCons (dVar 3) aNil)) (aCons (dVar 4) aNil))))))))))))
def g_read_picture : PF := runG 7 (t_read_picture)
def t_read_put : SF :=
 (sSeq (sAsg (dIf (tDt truD (dVar 0)) (dCall 1 (g_read_name) (aCons (d2 ixD (dVar 0) (dC (.int 0))) aNil)) (dC .non)) (dName 1))
 (sSeq (sAsg (dCall 1 (g_read_wardens) (aCons (dSl (dVar 0) (oSome (dC (.int 1))) oNone) aNil)) (dName 2))
 (sRet (dIf (dOrT (tDt blD (d2 isD (dVar 1) (dC .non))) (tDt blD (d2 isD (dVar 2) (dC .non)))) (dC .non) (dN mkTup (aCons (dC (.str "put")) (aCons (d2 ixD (dVar 1) (dC (.int 0))) (aCons (d2 ixD (dVar 1) (dC (.int 1))) (aCons (dVar 2) aNil)))))))))
def g_read_put : PF := runG 2 (t_read_put)
def t_read_deal : SF :=
 (sSeq (sAsg (dCall 1 (g_read_wardens) (aCons (dVar 0) aNil)) (dName 1))
 (sRet (dIf (tDt blD (d2 isD (dVar 1) (dC .non))) (dC .non) (dN mkTup (aCons (dC (.str "deal")) (aCons (dVar 1) aNil))))))
def g_read_deal : PF := runG 1 (t_read_deal)
def t_read_cap : SF :=
 (sSeq (sAsg (dSl (dVar 0) oNone (oSome (dC (.int 2)))) (dName 1))
 (sSeq (sAsg (dCall 1 (g_read_wardens) (aCons (dSl (dVar 0) (oSome (dC (.int 2))) oNone) aNil)) (dName 2))
 (sSeq (sIf (dOrT (dNotT (tDt truD (dN allD (aCons (dLc (dItems (dVar 1)) (dName 3) dYes (dCall 1 (g_is_number) (aCons (dVar 3) aNil)) [3]) aNil)))) (tDt blD (d2 isD (dVar 2) (dC .non))))
 (sRet (dC .non))
 sNext)
 (sRet (dN mkTup (aCons (dC (.str "cap")) (aCons (dN Zj.intSD (aCons (d2 ixD (dVar 1) (dC (.int 0))) aNil)) (aCons (dN Zj.intSD (aCons (d2 ixD (dVar 1) (dC (.int 1))) aNil)) (aCons (dVar 2) aNil)))))))))
def g_read_cap : PF := runG 3 (t_read_cap)
def t_read_record : SF :=
 (sSeq (sAsg (Zj.dM1 Zj.partD (dVar 0) (dC (.str ";"))) (dgTup 3 (dgCons (dName 1) (dgCons (dName 2) (dgCons (dName 3) dgNil)))))
 (sSeq (sIf (dOrT (dNotT (tDt truD (dVar 2))) (tDt truD (dVar 3)))
 (sRet (dC .non))
 sNext)
 (sSeq (Zj.sStar (Zj.dM1 Zj.splitD (dVar 1) (dC (.str " "))) 2 1 (dgCons (dName 4) (dgCons (dName 5) dgNil)))
 (sSeq (sIf (tDt blD (d2 eqD (dVar 4) (dC (.str "picture"))))
 (sRet (dCall 1 (g_read_picture) (aCons (dVar 5) aNil)))
 sNext)
 (sSeq (sIf (tDt blD (d2 eqD (dVar 4) (dC (.str "put"))))
 (sRet (dCall 1 (g_read_put) (aCons (dVar 5) aNil)))
 sNext)
 (sSeq (sIf (tDt blD (d2 eqD (dVar 4) (dC (.str "erase"))))
 (sRet (dIf (dAndT (tDt blD (d2 eqD (dN lenD (aCons (dVar 5) aNil)) (dC (.int 1)))) (tDt truD (dCall 1 (g_is_name) (aCons (d2 ixD (dVar 5) (dC (.int 0))) aNil)))) (dN mkTup (aCons (dC (.str "erase")) (aCons (d2 ixD (dVar 5) (dC (.int 0))) aNil))) (dC .non)))
 sNext)
 (sSeq (sIf (tDt blD (d2 eqD (dVar 4) (dC (.str "deal"))))
 (sRet (dCall 1 (g_read_deal) (aCons (dVar 5) aNil)))
 sNext)
 (sSeq (sIf (tDt blD (d2 eqD (dVar 4) (dC (.str "cap"))))
 (sRet (dCall 1 (g_read_cap) (aCons (dVar 5) aNil)))
 sNext)
 (sRet (dC .non))))))))))
def g_read_record : PF := runG 5 (t_read_record)

theorem e_is_number : g_is_number = Zd.g_is_number := rfl
theorem is_nn : isD .non .non = some (.bl true) := rfl
theorem is_tn (xs : List D) : isD (.tup xs) .non = some (.bl false) := rfl
theorem is_ln (xs : List D) : isD (.lst xs) .non = some (.bl false) := rfl
/-! ### a text cut at a sign -/
abbrev L := List Nat
abbrev Ws := List (List Nat)
def cut (c : Nat) : L → L × Option L
  | [] => ([], none)
  | x :: r => if x = c then ([], some r) else (x :: (cut c r).1, (cut c r).2)
theorem cut_app {c : Nat} : ∀ {p : L} (q : L), c ∉ p → cut c (p ++ c :: q) = (p, some q)
  | [], q, _ => if_pos rfl
  | x :: p, q, h => by
    have h1 : ¬ x = c := fun z => h (by rw [z]; exact List.mem_cons_self)
    show (if x = c then _ else (x :: (cut c (p ++ c :: q)).1, (cut c (p ++ c :: q)).2)) = _
    rw [if_neg h1, cut_app q fun z => h (List.mem_cons_of_mem _ z)]
theorem cut_free {c : Nat} : ∀ {p : L}, c ∉ p → cut c p = (p, none)
  | [], _ => rfl
  | x :: p, h => by
    have h1 : ¬ x = c := fun z => h (by rw [z]; exact List.mem_cons_self)
    show (if x = c then _ else (x :: (cut c p).1, (cut c p).2)) = _
    rw [if_neg h1, cut_free fun z => h (List.mem_cons_of_mem _ z)]
theorem first_at {c : Nat} : ∀ {a : L}, c ∈ a → ∃ p q, a = p ++ c :: q ∧ c ∉ p
  | x :: r, h => by
    by_cases e : x = c
    · exact ⟨[], r, by rw [e]; rfl, by simp⟩
    · obtain ⟨p, q, h1, h2⟩ := first_at (a := r) (by rcases List.mem_cons.mp h with z | z; exact absurd z.symm e; exact z)
      refine ⟨x :: p, q, by rw [h1]; rfl, fun z => ?_⟩
      rcases List.mem_cons.mp z with z | z
      · exact e z.symm
      · exact h2 z
theorem cut_or (c : Nat) (a : L) : (∃ p q, a = p ++ c :: q ∧ c ∉ p ∧ cut c a = (p, some q)) ∨ (c ∉ a ∧ cut c a = (a, none)) := by
  by_cases h : c ∈ a
  · obtain ⟨p, q, h1, h2⟩ := first_at h
    exact .inl ⟨p, q, h1, h2, by rw [h1]; exact cut_app q h2⟩
  · exact .inr ⟨h, cut_free h⟩
theorem part_S {c : Nat} {a : L} (h : a.length ≤ 100000) : partD (SX.S a) (dS [c]) = some (.tup [dS (cut c a).1, dS (if (cut c a).2.isSome = true then [c] else []), dS ((cut c a).2.getD [])]) := by
  show (if ((SX.S [c]).length == 0) = false ∧ (SX.S a).length ≤ 100000 then some (D.tup [.str (Txt.partition (SX.S a) (SX.S [c])).1, .str (Txt.partition (SX.S a) (SX.S [c])).2.1, .str (Txt.partition (SX.S a) (SX.S [c])).2.2]) else none) = _
  rw [SX.S_len, if_pos ⟨rfl, by rw [SX.S_len]; exact h⟩]
  rcases cut_or c a with ⟨p, q, h1, h2, h3⟩ | ⟨h1, h3⟩
  · rw [h3]
    have e := SX.partition_some (a := a) (b := [c]) (by simp) (by rw [h1]; exact SX.par_head q h2)
    rw [e]
    rfl
  · rw [h3]
    have e := SX.partition_none (a := a) (b := [c]) (by simp) (SX.par_head_none h1)
    rw [e]
    rfl
/-- the parts between the signs c -/
def sp (c : Nat) (a : L) : Ws := TL.spl [c] 0 [] a
theorem sp_S {c : Nat} {a : L} (hc : c < 256) (h : a.length ≤ 100000) : splitD (SX.S a) (dS [c]) = some (.lst ((sp c a).map dS)) :=
  split_S (by simp) (by simp [hc]) h
theorem sp_app {c : Nat} {p : L} (q : L) (h : c ∉ p) : sp c (p ++ c :: q) = p :: sp c q := SX.spl_free q (by simp) (SX.free_head h)
theorem sp_free {c : Nat} {p : L} (h : c ∉ p) : sp c p = [p] := by
  have := TL.spl_last1 (S := []) (acc := []) h
  rw [List.nil_append] at this
  exact this
theorem sp_join {c : Nat} {ws : Ws} (h0 : ws ≠ []) (h : ∀ p ∈ ws, c ∉ p) : sp c (TL.joinL [c] ws) = ws := SX.spl_join h0 h
theorem sp_all {c : Nat} {P : L → Prop} (hP : ∀ p q, P (p ++ c :: q) → P p ∧ P q) : ∀ (n : Nat) (a : L), a.length ≤ n → P a → ∀ w ∈ sp c a, P w
  | n, a, hn, h, w, hw => by
    rcases cut_or c a with ⟨p, q, h1, h2, _⟩ | ⟨h1, _⟩
    · subst h1
      rw [sp_app q h2] at hw
      obtain ⟨g1, g2⟩ := hP p q h
      rcases List.mem_cons.mp hw with z | z
      · rw [z]; exact g1
      · cases n with
        | zero => simp at hn
        | succ n => exact sp_all hP n q (by simp at hn; omega) g2 w z
    · rw [sp_free h1] at hw
      rw [List.mem_singleton.mp hw]
      exact h
theorem sp_asc {c : Nat} {a : L} (h : asc a = true) : ∀ w ∈ sp c a, asc w = true := sp_all (P := fun a => asc a = true) (fun p q h => by
  unfold asc at *
  rw [List.all_append, List.all_cons, Bool.and_eq_true, Bool.and_eq_true] at h
  exact ⟨h.1, h.2.2⟩) a.length a (Nat.le_refl _) h
theorem sp_le {c b : Nat} {a : L} (h : a.length ≤ b) : ∀ w ∈ sp c a, w.length ≤ b := sp_all (P := fun a => a.length ≤ b) (fun p q h => by
  rw [List.length_append, List.length_cons] at h
  omega) a.length a (Nat.le_refl _) h
theorem sp_count {c : Nat} : ∀ (n : Nat) (a : L), a.length ≤ n → (sp c a).length ≤ n + 1
  | n, a, hn => by
    rcases cut_or c a with ⟨p, q, h1, h2, _⟩ | ⟨h1, _⟩
    · subst h1
      rw [sp_app q h2, List.length_cons]
      cases n with
      | zero => simp at hn
      | succ n => exact Nat.succ_le_succ (sp_count n q (by simp at hn; omega))
    · rw [sp_free h1]
      simp
theorem sp_ne {c : Nat} (a : L) : sp c a ≠ [] := by
  rcases cut_or c a with ⟨p, q, h1, h2, _⟩ | ⟨h1, _⟩
  · rw [h1, sp_app q h2]; simp
  · rw [sp_free h1]; simp
/-! ### names, numbers -/
def nch (c : Nat) : Bool := (decide (97 ≤ c) && decide (c ≤ 122)) || (decide (48 ≤ c) && decide (c ≤ 57))
def isName (a : L) : Bool := (decide (1 ≤ a.length) && decide (a.length ≤ 12)) && a.all nch
theorem leT1 (a b : Nat) : leTf (SX.S [a]) (SX.S [b]) = decide (a ≤ b) := by
  show (!decide ([b] < [a])) = _
  have e : ([b] < [a]) ↔ b < a := by
    rw [List.cons_lt_cons_iff]
    simp
  by_cases h : b < a
  · rw [decide_eq_true (e.mpr h), decide_eq_false (by omega)] <;> rfl
  · rw [decide_eq_false (fun z => h (e.mp z)), decide_eq_true (by omega)] <;> rfl
theorem onT_le (a b : Nat) : onT leTf (dS [a]) (dS [b]) = some (.bl (decide (a ≤ b))) := congrArg (fun z => some (D.bl z)) (leT1 a b)
def apTxt : Option D → Option (List D) := fun x => x.bind fun x => match x with
  | .str s => some (Zra.signsD s)
  | _ => none
theorem dTxt_a {a : DF} {g : Gm} : Zra.dTxt a g = apTxt (a g) := rfl
theorem apTxt_S {l : L} : apTxt (some (dS l)) = some (l.map fun c => dS [c]) := rfl
/-! ### `in`, index, == over what is laid out -/
theorem toPs_map {α : Type} {f : α → D} {p : α → PyData} : ∀ {xs : List α}, (∀ x ∈ xs, toP (f x) = some (p x)) → toPs (xs.map f) = some (xs.map p)
  | [], _ => rfl
  | x :: xs, h => by
    show (toP (f x)).bind (fun q => (toPs (xs.map f)).map (q :: ·)) = _
    rw [h x List.mem_cons_self, toPs_map fun y m => h y (List.mem_cons_of_mem _ m)]
    rfl
theorem lays_map {α : Type} {p : α → PyData} : ∀ {xs : List α}, (∀ x ∈ xs, (p x).canLay0 = true) → PyData.canLayAll0 (xs.map p) = true
  | [], _ => rfl
  | x :: xs, h => by
    show PyData.canLayAll0 (p x :: xs.map p) = true
    unfold PyData.canLayAll0
    rw [h x List.mem_cons_self, lays_map fun y m => h y (List.mem_cons_of_mem _ m)]
    rfl
theorem any_map {α : Type} {p : α → PyData} {b : α → Bool} {q : PyData} : ∀ {xs : List α}, (∀ x ∈ xs, PyData.eqv (p x) q = b x) → ((xs.map p).any fun z => PyData.eqv z q) = xs.any b
  | [], _ => rfl
  | x :: xs, h => by
    rw [List.map_cons, List.any_cons, List.any_cons, h x List.mem_cons_self, any_map fun y m => h y (List.mem_cons_of_mem _ m)]
theorem inB_gen {α : Type} {f : α → D} {p : α → PyData} {b : α → Bool} {d : D} {q : PyData} {xs : List α} (hd : toP d = some q) (hs : small q = true) (h1 : ∀ x ∈ xs, toP (f x) = some (p x)) (h2 : ∀ x ∈ xs, (p x).canLay0 = true) (h3 : ∀ x ∈ xs, PyData.eqv (p x) q = b x) :
    inPB d (.lst (xs.map f)) = some (xs.any b) := by
  show ((toP d).bind fun d => (toPs (xs.map f)).bind fun ps => if (small d && PyData.canLayAll0 ps) = true then some (ps.any fun z => PyData.eqv z d) else none) = _
  rw [hd, toPs_map h1, Option.bind_some, Option.bind_some, hs, lays_map h2, any_map h3]
  rfl
theorem in_gen {α : Type} {f : α → D} {p : α → PyData} {b : α → Bool} {d : D} {q : PyData} {xs : List α} (hd : toP d = some q) (hs : small q = true) (h1 : ∀ x ∈ xs, toP (f x) = some (p x)) (h2 : ∀ x ∈ xs, (p x).canLay0 = true) (h3 : ∀ x ∈ xs, PyData.eqv (p x) q = b x) :
    inPD d (.lst (xs.map f)) = some (.bl (xs.any b)) := by
  unfold inPD
  rw [inB_gen hd hs h1 h2 h3]
  rfl
theorem nin_gen {α : Type} {f : α → D} {p : α → PyData} {b : α → Bool} {d : D} {q : PyData} {xs : List α} (hd : toP d = some q) (hs : small q = true) (h1 : ∀ x ∈ xs, toP (f x) = some (p x)) (h2 : ∀ x ∈ xs, (p x).canLay0 = true) (h3 : ∀ x ∈ xs, PyData.eqv (p x) q = b x) :
    ninPD d (.lst (xs.map f)) = some (.bl (!xs.any b)) := by
  unfold ninPD
  rw [inB_gen hd hs h1 h2 h3]
  rfl
theorem eqv_S (a b : L) : PyData.eqv (.str (SX.S a)) (.str (SX.S b)) = decide (a = b) := by
  rw [PyData.eqv]
  exact SX.S_beq_eq
theorem small_S {a : L} (h : asc a = true) : small (.str (SX.S a)) = true := by
  unfold small PyData.canLay0
  rw [strOk_S h]
  rfl
theorem nin_S1 {w : L} {ws : Ws} (hw : asc w = true) (h : ∀ x ∈ ws, asc x = true) : ninPD (dS w) (.lst (ws.map dS)) = some (.bl (!decide (w ∈ ws))) := by
  rw [nin_gen (f := dS) (p := fun a => .str (SX.S a)) (b := fun a => decide (a = w)) (q := .str (SX.S w)) rfl (small_S hw) (fun _ _ => rfl) (fun x m => by unfold PyData.canLay0; exact strOk_S (h x m)) (fun x m => eqv_S x w)]
  have : (ws.any fun a => decide (a = w)) = decide (w ∈ ws) := by
    rw [Bool.eq_iff_iff, List.any_eq_true, decide_eq_true_eq]
    exact ⟨fun ⟨x, m, e⟩ => by rw [← of_decide_eq_true e]; exact m, fun m => ⟨w, m, decide_eq_true rfl⟩⟩
  rw [this]
theorem idx_S {w : L} {ws : Ws} (hw : asc w = true) (h : ∀ x ∈ ws, asc x = true) (hl : ws.length ≤ 1000) (hm : w ∈ ws) : Zk2.idxD (.lst (ws.map dS)) (dS w) = some (.int ((ws.idxOf w : Nat) : Int)) := by
  have e1 : toPs (ws.map dS) = some (ws.map fun a => .str (SX.S a)) := toPs_map fun _ _ => rfl
  unfold Zk2.idxD
  rw [show toP (dS w) = some (.str (SX.S w)) from rfl]
  simp only [Option.bind_some, e1]
  rw [small_S hw, lays_map (p := fun a => .str (SX.S a)) fun x m => by unfold PyData.canLay0; exact strOk_S (h x m), List.length_map, decide_eq_true hl, if_pos (show (true && true && true) = true from rfl)]
  have e2 : ((ws.map fun a => PyData.str (SX.S a)).findIdx? fun z => PyData.eqv z (.str (SX.S w))) = some (ws.idxOf w) := by
    rw [List.findIdx?_map]
    have e3 : ((fun z => PyData.eqv z (.str (SX.S w))) ∘ fun a => PyData.str (SX.S a)) = fun a => a == w := by
      funext a
      show PyData.eqv (.str (SX.S a)) (.str (SX.S w)) = _
      rw [eqv_S, Bool.eq_iff_iff]
      simp
    rw [e3]
    rw [List.findIdx?_eq_some_iff_findIdx_eq]
    exact ⟨List.idxOf_lt_length_of_mem hm, rfl⟩
  rw [e2]
  rfl
theorem ca : codes "a" = [97] := (rfl)
theorem cz : codes "z" = [122] := (rfl)
theorem c0 : codes "0" = [48] := (rfl)
theorem c9 : codes "9" = [57] := (rfl)
theorem cComma : codes "," = [44] := (rfl)
theorem cEq : codes "=" = [61] := (rfl)
theorem cCol : codes ":" = [58] := (rfl)
theorem cSl : codes "/" = [47] := (rfl)
theorem cSemi : codes ";" = [59] := (rfl)
theorem cSp : codes " " = [32] := (rfl)
def apZip : Option (List D) → Option (List D) := fun x => x.bind fun zs => match zs with
  | [.lst xs, .lst ys] => some (Zq9.zipD xs ys)
  | [.tup xs, .tup ys] => some (Zq9.zipD xs ys)
  | _ => none
theorem dZip_a {a : DAF} {g : Gm} : Zq9.dZip a g = apZip (a g) := rfl
theorem apZip_l {xs ys : List D} : apZip (some [.lst xs, .lst ys]) = some (Zq9.zipD xs ys) := rfl
local macro_rules | `(tactic| walk_at "zs") => `(tactic| simp only [beq_self_eq_true, Bool.or_false, Bool.false_or, Bool.true_or, Bool.or_true, Bool.and_false, Bool.false_and, Bool.true_and, Bool.and_true, Zc.isi_ii, Zc.isi_ib, Zc.isi_tt, Zc.isi_ll, Zc.rowsT_len, Zc.rowsL_len, Zc.is_integer_call, Zc.ix_p0, Zc.ix_p1, dgTup2_a, dgTup3_a, Bool.not_true, Bool.not_false, mul_lz, List.flatten_cons, List.flatten_nil, Int.reduceToNat, add_ll, pow10_12, pow10_18, pow10_39, pow10_41, pow10_59, pow10_60, mkLst_some, mkTup_some, List.length_cons, List.length_nil, Nat.zero_le, Nat.reduceAdd, Nat.reduceLeDiff, call1, callO1, call2, callO2, call3, callO3, call4, callO4, call5, callO5, call6, callO6, ap1_some, ap2_some, apN_some, apC_some, d1_a, d2_a, dN_a, aNil_a, aCons_a, dC_a, dVar_z, dVar_s, tDt_a, apAnd_t, apAnd_f, apOr_t, apOr_f, dAndT_a, dOrT_a, apNot_some, dNotT_a, apAndV_t, apAndV_f, dAndV_a, apOrV_t, apOrV_f, dOrV_a, apIf_t, apIf_f, dIf_a, apCh_t, apCh_f, apChain_some, dChain_a, apSeq_nx, apSeq_rt, apSeq_ct, apSeq_bk, sSeq_a, apIfS_t, apIfS_f, sIf_a, sNext_a, sCont_a, sBreak_a, apRet_some, sRet_a, apRetO_some, sRetO_a, sRetN_a, getO_z, getO_s, apRetV_some, sRetV_a, ltB_z, ltB_s, okSlot_s, apAsg_some, sAsg_a, dName_ok, apG_some, dgCons_a, dgNil_a, apAsgO_some, sAsgO_a, sApp_a, sSetI_a, apFor_some, sFor_a, dItems_a, dRng1_a, dRng2_a, apEn_some, apEn_tup, dEnum_a, sFrz_a, frzs_nil, frzs_cons, frzI_o, frzI_v, frzI_n, frzI_s, frz1_s, frzAll_nil, frzAll_o, frzAll_v, frzAll_n, peekT_a, apPk_int, apPk_bl, apPk_str, apPk_non, peekF_a, dCall_a, toO_o, dCallO_a, dMake_a, Wd_v, Wd_o, dSl_a, apSl_some, oNone_a, oSome_a, apO_some, add_ii, sub_ii, lt_ii, le_ii, gt_ii, ge_ii, eq_ii, ne_ii, neg_i, not_b, bl_b, tru_b, tru_i, tru_l, tru_t, tru_n, len_l, len_t, len_scr, abs_i, int_i, list_l, list_t, tuple_l, tuple_t, min_ii, max_ii, rev_l, items_l, items_t, iL_len, run_a, outW_rt, outW_nx, List.map_cons, List.map_nil, List.replicate, List.append_nil, List.cons_append, List.nil_append, List.set_cons_zero, List.set_cons_succ, Option.map_some])
local macro_rules | `(tactic| walk_at "zd") => `(tactic| first | ((with_reducible show okSlot _ _ = true); simp only [okSlot_s, ltB_z, ltB_s]; done) | omega | assumption | decide | (simp only [List.length_map, List.length_append, List.length_cons, List.length_nil, List.length_range, List.length_set, List.length_reverse, iL_len, Zc.rowsT_len, Zc.rowsL_len] at *; omega))
local macro_rules | `(tactic| walk_at "zz") => `(tactic| simp (disch := walk_at "zd") only [dgTup2_a, dgTup3_a, Bool.not_true, Bool.not_false, mul_lz, List.flatten_cons, List.flatten_nil, Int.reduceToNat, add_ll, pow10_12, pow10_18, pow10_39, pow10_41, pow10_59, pow10_60, mkLst_some, mkTup_some, List.length_cons, List.length_nil, Nat.zero_le, Nat.reduceAdd, Nat.reduceLeDiff, call1, callO1, call2, callO2, call3, callO3, call4, callO4, call5, callO5, call6, callO6, ap1_some, ap2_some, apN_some, apC_some, d1_a, d2_a, dN_a, aNil_a, aCons_a, dC_a, dVar_z, dVar_s, tDt_a, apAnd_t, apAnd_f, apOr_t, apOr_f, dAndT_a, dOrT_a, apNot_some, dNotT_a, apAndV_t, apAndV_f, dAndV_a, apOrV_t, apOrV_f, dOrV_a, apIf_t, apIf_f, dIf_a, apCh_t, apCh_f, apChain_some, dChain_a, apSeq_nx, apSeq_rt, apSeq_ct, apSeq_bk, sSeq_a, apIfS_t, apIfS_f, sIf_a, sNext_a, sCont_a, sBreak_a, apRet_some, sRet_a, apRetO_some, sRetO_a, sRetN_a, getO_z, getO_s, apRetV_some, sRetV_a, ltB_z, ltB_s, okSlot_s, apAsg_some, sAsg_a, dName_ok, apG_some, dgCons_a, dgNil_a, apAsgO_some, sAsgO_a, sApp_a, sSetI_a, apFor_some, sFor_a, dItems_a, dRng1_a, dRng2_a, apEn_some, apEn_tup, dEnum_a, sFrz_a, frzs_nil, frzs_cons, frzI_o, frzI_v, frzI_n, frzI_s, frz1_s, frzAll_nil, frzAll_o, frzAll_v, frzAll_n, peekT_a, apPk_int, apPk_bl, apPk_str, apPk_non, peekF_a, dCall_a, toO_o, dCallO_a, dMake_a, Wd_v, Wd_o, dSl_a, apSl_some, oNone_a, oSome_a, apO_some, add_ii, sub_ii, lt_ii, le_ii, gt_ii, ge_ii, eq_ii, ne_ii, neg_i, not_b, bl_b, tru_b, tru_i, tru_l, tru_t, tru_n, len_l, len_t, len_scr, abs_i, int_i, list_l, list_t, tuple_l, tuple_t, min_ii, max_ii, rev_l, items_l, items_t, iL_len, run_a, outW_rt, outW_nx, List.map_cons, List.map_nil, List.replicate, List.append_nil, List.cons_append, List.nil_append, List.set_cons_zero, List.set_cons_succ, Option.map_some, Int.reduceAdd, Int.reduceMul, Int.reduceSub, Int.reduceNeg, beq_self_eq_true, Bool.or_false, Bool.false_or, Bool.true_or, Bool.or_true, Bool.and_false, Bool.false_and, Bool.true_and, Bool.and_true, Zc.isi_ii, Zc.isi_ib, Zc.isi_tt, Zc.isi_ll, Zc.rowsT_len, Zc.rowsL_len, Zc.is_integer_call, Zc.ix_p0, Zc.ix_p1, apR1_any, Int.toNat_natCast, apR2_some, mod_ii, fdiv_ii, mul_small, apApp_some, ix_at, ix_atT, ix_atI, ix_atIT, ix_atR, ix_atRT, List.length_map, List.length_append, List.length_range, List.length_set, Option.map_none, Option.map_map, decide_true, decide_false, peekO_a, apPkO_i, frz_wo, frz_wv, frz_kk, wipeG_nil, wipeG_cons, orB_s, orB_t, orB_f, andB_s, andB_t, andB_f, orV_s, orV_t, orV_f, andV_s, andV_t, andV_f, apOr_b, apAnd_b, apOrV_b, apAndV_b, apCh_b, Zc.cut_from, Zc.cut_to, in_l, in_t, in_pr, eq_op_op, eq_op_pr, eq_pr_op, eq_pr_pr, ne_op_op, ne_op_pr, ne_pr_op, ne_pr_pr, isnt_op, is_op, pr_0, pr_1, st_0, st_1, inP_pr, ninP_pr, nin_l, isi_prt, len_pr, op_some, prD_eq, ix_lit2, ix_lit3, ix_lit4, ix_lit5, ix_lit6, ix_lit7, ix_lit8, ix_lit9, ix_lit10, ix_lit11, ix_lit12, ix_lit13, ix_lit14, ix_lit15, setI_i, setI_p, setI_o, setI_n, snoc_i, snoc_r, snoc_p, snoc_n, snoc_o, snoc_pp, snoc_s, eq_ol, ne_ol, eq_pl, ne_pl, eq_sl, ne_sl, eq_il, ne_il, eq_rl, ne_rl, eq_il1, isi_bb, eq_bb, ne_bb, eq_self, lit, dM1_a, apM1_S, dM0_a, apM0_S, Bool.not_true, Bool.not_false, is_tn, is_nn, is_ln, dTxt_a, apTxt_S, Int.reduceBEq, ca, cz, c0, c9, cComma, cEq, cCol, cSl, cSemi, cSp, onT_le, dZip_a, apZip_l])
local macro_rules | `(tactic| walk_at "zf") => `(tactic| first | (walk_at "zz"; done) | (walk_at "zz"; rfl) | rfl)
local macro_rules | `(tactic| walk_at "lc") => `(tactic| ((case hf => rfl); (case hi => first | (walk_at "zz"; done) | (walk_at "zz"; rfl) | rfl); (case hl => walk_at "zd"); (case h => (intro a ha; refine ⟨_, dName_ok rfl, ?_, fun hT => ?_⟩ <;> walk_at "zz" <;> rfl))))
local macro_rules | `(tactic| walk_at "lm") => `(tactic| ((case hf => rfl); (case hi => first | (walk_at "zz"; done) | (walk_at "zz"; rfl) | rfl); (case hl => walk_at "zd"); (case h => (intro a ha; refine ⟨_, dName_ok rfl, ?_⟩; walk_at "zz"; rfl))))
theorem is_name_spec {a : L} (hl : a.length ≤ 100000) : g_is_name [dS a] = some (.v (.bl (isName a))) := by
  unfold g_is_name t_is_name
  walk_at "zz"
  rw [len_S hl]
  walk_at "zz"
  have e1 : (decide ((1 : Int) ≤ ((a.length : Nat) : Int)) && decide (((a.length : Nat) : Int) ≤ 12)) = (decide (1 ≤ a.length) && decide (a.length ≤ 12)) := by
    congr 1 <;> (rw [decide_eq_decide]; omega)
  rw [e1]
  unfold isName
  cases (decide (1 ≤ a.length) && decide (a.length ≤ 12))
  · walk_at "zz"
  · walk_at "zz"
    rewrite [dLc_map (fun c => dS [c]) (xs := a) (F := fun c => .bl (nch c))]
    case hf => rfl
    case hi => walk_at "zz"
    case hl => exact hl
    case h =>
      intro c hm
      refine ⟨_, dName_ok rfl, ?_⟩
      walk_at "zz"
      unfold nch
      cases decide (97 ≤ c) <;> cases decide (c ≤ 122) <;> cases decide (48 ≤ c) <;> cases decide (c ≤ 57) <;> walk_at "zz"
    walk_at "zz"
    rw [all_bls]
    walk_at "zz"
def rdNums (a : L) : Option (List Int) := if (sp 44 a).all isNum = true then some ((sp 44 a).map val) else none
def numsD : Option (List Int) → D
  | some ns => .lst (iL ns)
  | none => .non
theorem read_joined_spec {a : L} (ha : asc a = true) (hl : a.length ≤ 640) : g_read_joined [dS a] = some (.v (numsD (rdNums a))) := by
  unfold g_read_joined t_read_joined
  walk_at "zz"
  rw [sp_S (by decide) (by omega)]
  walk_at "zz"
  have hc := sp_count (c := 44) a.length a (Nat.le_refl _)
  rewrite [dLc_map dS (xs := sp 44 a) (F := fun a => D.bl (isNum a))]
  case hf => rfl
  case hi => walk_at "zz"
  case hl => omega
  case h =>
    intro w hm
    refine ⟨_, dName_ok rfl, ?_⟩
    walk_at "zz"
    rw [e_is_number, is_number_spec (sp_asc ha w hm)]
    walk_at "zz"
  walk_at "zz"
  rw [all_bls]
  unfold rdNums
  cases hall : (sp 44 a).all isNum
  · walk_at "zz"
    rfl
  · walk_at "zz"
    rewrite [dLc_map dS (xs := sp 44 a) (F := fun a => D.int (val a))]
    case hf => rfl
    case hi => walk_at "zz"
    case hl => omega
    case h =>
      intro w hm
      refine ⟨_, dName_ok rfl, ?_⟩
      walk_at "zz"
      exact intS_val (List.all_eq_true.mp hall w hm) (sp_le hl w hm)
    walk_at "zz"
    show some (Wd.v (D.lst _)) = some (Wd.v (D.lst (((sp 44 a).map val).map D.int)))
    rw [List.map_map]
    rfl
/-! ### rising -/
def riseL {α : Type} (lt : α → α → Bool) : List α → Bool
  | x :: y :: r => lt x y && riseL lt (y :: r)
  | _ => true
def ltI (x y : Int) : Bool := decide (x < y)
def ltS (x y : L) : Bool := decide (x < y)
theorem zipD_map {α β : Type} (f : α → D) (g : β → D) : ∀ (xs : List α) (ys : List β), Zq9.zipD (xs.map f) (ys.map g) = (xs.zip ys).map fun p => .tup [f p.1, g p.2]
  | [], _ => by simp [Zq9.zipD]
  | _ :: _, [] => by simp [Zq9.zipD]
  | x :: xs, y :: ys => by
    show D.tup [f x, g y] :: Zq9.zipD (xs.map f) (ys.map g) = _
    rw [zipD_map f g xs ys]
    rfl
theorem rise_zip {α : Type} (lt : α → α → Bool) : ∀ xs : List α, ((xs.zip (xs.drop 1)).all fun p => lt p.1 p.2) = riseL lt xs
  | [] => rfl
  | [x] => rfl
  | x :: y :: r => by
    have h := rise_zip lt (y :: r)
    show (lt x y && (((y :: r).zip r).all fun p => lt p.1 p.2)) = (lt x y && riseL lt (y :: r))
    rw [← h]
    rfl
theorem rise_spec {α : Type} {f : α → D} {lt : α → α → Bool} {xs : List α} (h : ∀ x ∈ xs, ∀ y ∈ xs, Zra.ltA (f x) (f y) = some (.bl (lt x y))) (hl : xs.length ≤ 1000) : g_rise [.lst (xs.map f)] = some (.v (.bl (riseL lt xs))) := by
  unfold g_rise t_rise
  walk_at "zz"
  have e1 : cutL (xs.map f) (some 1) none = (xs.drop 1).map f := by
    have z := Zc.cut_from (xs.map f) 1
    rw [← List.map_drop] at z
    exact z
  rewrite [dLc_map (fun p : α × α => D.tup [f p.1, f p.2]) (xs := xs.zip (xs.drop 1)) (F := fun p => .bl (lt p.1 p.2))]
  case hf => rfl
  case hi =>
    walk_at "zz"
    rw [e1]
    exact congrArg some (zipD_map f f _ _)
  case hl => rw [List.length_zip]; omega
  case h =>
    intro p hm
    obtain ⟨m1, m2⟩ := List.of_mem_zip (a := p.1) (b := p.2) hm
    refine ⟨_, rfl, ?_⟩
    walk_at "zz"
    exact h p.1 m1 p.2 (List.mem_of_mem_drop m2)
  walk_at "zz"
  rw [all_bls, rise_zip]
  walk_at "zz"
theorem rise_ints {ns : List Int} (hl : ns.length ≤ 1000) : g_rise [.lst (iL ns)] = some (.v (.bl (riseL ltI ns))) := rise_spec (f := D.int) (fun _ _ _ _ => rfl) hl
theorem count_spec {ns : List Int} (hl : ns.length ≤ 990) : g_count [.lst (iL ns)] = some (.v (.bl (riseL ltI (0 :: ns)))) := by
  unfold g_count t_count
  walk_at "zz"
  show outW (apRet (Option.map Wd.d (g_rise [.lst (iL (0 :: ns))]))) = _
  rw [rise_ints (by simp; omega)]
  walk_at "zz"
end Rk
end

section
set_option Elab.async false
set_option linter.all false
set_option maxRecDepth 100000
set_option maxHeartbeats 4000000
/-! What the helpers are in the common files. -/
namespace Y
open PySem L2 Zk Zc
local macro_rules | `(tactic| walk_at "zs") => `(tactic| simp only [beq_self_eq_true, Bool.or_false, Bool.false_or, Bool.true_or, Bool.or_true, Bool.and_false, Bool.false_and, Bool.true_and, Bool.and_true, Zc.isi_ii, Zc.isi_ib, Zc.isi_tt, Zc.isi_ll, Zc.rowsT_len, Zc.rowsL_len, Zc.is_integer_call, Zc.ix_p0, Zc.ix_p1, dgTup2_a, dgTup3_a, Bool.not_true, Bool.not_false, mul_lz, List.flatten_cons, List.flatten_nil, Int.reduceToNat, add_ll, pow10_12, pow10_18, pow10_39, pow10_41, pow10_59, pow10_60, mkLst_some, mkTup_some, List.length_cons, List.length_nil, Nat.zero_le, Nat.reduceAdd, Nat.reduceLeDiff, call1, callO1, call2, callO2, call3, callO3, call4, callO4, call5, callO5, call6, callO6, ap1_some, ap2_some, apN_some, apC_some, d1_a, d2_a, dN_a, aNil_a, aCons_a, dC_a, dVar_z, dVar_s, tDt_a, apAnd_t, apAnd_f, apOr_t, apOr_f, dAndT_a, dOrT_a, apNot_some, dNotT_a, apAndV_t, apAndV_f, dAndV_a, apOrV_t, apOrV_f, dOrV_a, apIf_t, apIf_f, dIf_a, apCh_t, apCh_f, apChain_some, dChain_a, apSeq_nx, apSeq_rt, apSeq_ct, apSeq_bk, sSeq_a, apIfS_t, apIfS_f, sIf_a, sNext_a, sCont_a, sBreak_a, apRet_some, sRet_a, apRetO_some, sRetO_a, sRetN_a, getO_z, getO_s, apRetV_some, sRetV_a, ltB_z, ltB_s, okSlot_s, apAsg_some, sAsg_a, dName_ok, apG_some, dgCons_a, dgNil_a, apAsgO_some, sAsgO_a, sApp_a, sSetI_a, apFor_some, sFor_a, dItems_a, dRng1_a, dRng2_a, apEn_some, apEn_tup, dEnum_a, sFrz_a, frzs_nil, frzs_cons, frzI_o, frzI_v, frzI_n, frzI_s, frz1_s, frzAll_nil, frzAll_o, frzAll_v, frzAll_n, peekT_a, apPk_int, apPk_bl, apPk_str, apPk_non, peekF_a, dCall_a, toO_o, dCallO_a, dMake_a, Wd_v, Wd_o, dSl_a, apSl_some, oNone_a, oSome_a, apO_some, add_ii, sub_ii, lt_ii, le_ii, gt_ii, ge_ii, eq_ii, ne_ii, neg_i, not_b, bl_b, tru_b, tru_i, tru_l, tru_t, tru_n, len_l, len_t, len_scr, abs_i, int_i, list_l, list_t, tuple_l, tuple_t, min_ii, max_ii, rev_l, items_l, items_t, iL_len, run_a, outW_rt, outW_nx, List.map_cons, List.map_nil, List.replicate, List.append_nil, List.cons_append, List.nil_append, List.set_cons_zero, List.set_cons_succ, Option.map_some])
local macro_rules | `(tactic| walk_at "zd") => `(tactic| first | ((with_reducible show okSlot _ _ = true); simp only [okSlot_s, ltB_z, ltB_s]; done) | omega | assumption | decide | (simp only [List.length_map, List.length_append, List.length_cons, List.length_nil, List.length_range, List.length_set, List.length_reverse, iL_len, Zc.rowsT_len, Zc.rowsL_len] at *; omega))
local macro_rules | `(tactic| walk_at "zz") => `(tactic| simp (disch := walk_at "zd") only [dgTup2_a, dgTup3_a, Bool.not_true, Bool.not_false, mul_lz, List.flatten_cons, List.flatten_nil, Int.reduceToNat, add_ll, pow10_12, pow10_18, pow10_39, pow10_41, pow10_59, pow10_60, mkLst_some, mkTup_some, List.length_cons, List.length_nil, Nat.zero_le, Nat.reduceAdd, Nat.reduceLeDiff, call1, callO1, call2, callO2, call3, callO3, call4, callO4, call5, callO5, call6, callO6, ap1_some, ap2_some, apN_some, apC_some, d1_a, d2_a, dN_a, aNil_a, aCons_a, dC_a, dVar_z, dVar_s, tDt_a, apAnd_t, apAnd_f, apOr_t, apOr_f, dAndT_a, dOrT_a, apNot_some, dNotT_a, apAndV_t, apAndV_f, dAndV_a, apOrV_t, apOrV_f, dOrV_a, apIf_t, apIf_f, dIf_a, apCh_t, apCh_f, apChain_some, dChain_a, apSeq_nx, apSeq_rt, apSeq_ct, apSeq_bk, sSeq_a, apIfS_t, apIfS_f, sIf_a, sNext_a, sCont_a, sBreak_a, apRet_some, sRet_a, apRetO_some, sRetO_a, sRetN_a, getO_z, getO_s, apRetV_some, sRetV_a, ltB_z, ltB_s, okSlot_s, apAsg_some, sAsg_a, dName_ok, apG_some, dgCons_a, dgNil_a, apAsgO_some, sAsgO_a, sApp_a, sSetI_a, apFor_some, sFor_a, dItems_a, dRng1_a, dRng2_a, apEn_some, apEn_tup, dEnum_a, sFrz_a, frzs_nil, frzs_cons, frzI_o, frzI_v, frzI_n, frzI_s, frz1_s, frzAll_nil, frzAll_o, frzAll_v, frzAll_n, peekT_a, apPk_int, apPk_bl, apPk_str, apPk_non, peekF_a, dCall_a, toO_o, dCallO_a, dMake_a, Wd_v, Wd_o, dSl_a, apSl_some, oNone_a, oSome_a, apO_some, add_ii, sub_ii, lt_ii, le_ii, gt_ii, ge_ii, eq_ii, ne_ii, neg_i, not_b, bl_b, tru_b, tru_i, tru_l, tru_t, tru_n, len_l, len_t, len_scr, abs_i, int_i, list_l, list_t, tuple_l, tuple_t, min_ii, max_ii, rev_l, items_l, items_t, iL_len, run_a, outW_rt, outW_nx, List.map_cons, List.map_nil, List.replicate, List.append_nil, List.cons_append, List.nil_append, List.set_cons_zero, List.set_cons_succ, Option.map_some, Int.reduceAdd, Int.reduceMul, Int.reduceSub, Int.reduceNeg, beq_self_eq_true, Bool.or_false, Bool.false_or, Bool.true_or, Bool.or_true, Bool.and_false, Bool.false_and, Bool.true_and, Bool.and_true, Zc.isi_ii, Zc.isi_ib, Zc.isi_tt, Zc.isi_ll, Zc.rowsT_len, Zc.rowsL_len, Zc.is_integer_call, Zc.ix_p0, Zc.ix_p1, apR1_any, Int.toNat_natCast, apR2_some, mod_ii, fdiv_ii, mul_small, apApp_some, ix_at, ix_atT, ix_atI, ix_atIT, ix_atR, ix_atRT, List.length_map, List.length_append, List.length_range, List.length_set, Option.map_none, Option.map_map, decide_true, decide_false, peekO_a, apPkO_i, frz_wo, frz_wv, frz_kk, wipeG_nil, wipeG_cons, orB_s, orB_t, orB_f, andB_s, andB_t, andB_f, orV_s, orV_t, orV_f, andV_s, andV_t, andV_f, apOr_b, apAnd_b, apOrV_b, apAndV_b, apCh_b, Zc.cut_from, Zc.cut_to, in_l, in_t, in_pr, eq_op_op, eq_op_pr, eq_pr_op, eq_pr_pr, ne_op_op, ne_op_pr, ne_pr_op, ne_pr_pr, isnt_op, is_op, pr_0, pr_1, st_0, st_1, inP_pr, ninP_pr, nin_l, isi_prt, len_pr, op_some, prD_eq, ix_lit2, ix_lit3, ix_lit4, ix_lit5, ix_lit6, ix_lit7, ix_lit8, ix_lit9, ix_lit10, ix_lit11, ix_lit12, ix_lit13, ix_lit14, ix_lit15, setI_i, setI_p, setI_o, setI_n, snoc_i, snoc_r, snoc_p, snoc_n, snoc_o, snoc_pp, snoc_s, eq_ol, ne_ol, eq_pl, ne_pl, eq_sl, ne_sl, eq_il, ne_il, eq_rl, ne_rl, eq_il1, isi_bb, eq_bb, ne_bb, eq_self])
local macro_rules | `(tactic| walk_at "zf") => `(tactic| first | (walk_at "zz"; done) | (walk_at "zz"; rfl) | rfl)
local macro_rules | `(tactic| walk_at "lc") => `(tactic| ((case hf => rfl); (case hi => first | (walk_at "zz"; done) | (walk_at "zz"; rfl) | rfl); (case hl => walk_at "zd"); (case h => (intro a ha; refine ⟨_, dName_ok rfl, ?_, fun hT => ?_⟩ <;> walk_at "zz" <;> rfl))))
local macro_rules | `(tactic| walk_at "lm") => `(tactic| ((case hf => rfl); (case hi => first | (walk_at "zz"; done) | (walk_at "zz"; rfl) | rfl); (case hl => walk_at "zd"); (case h => (intro a ha; refine ⟨_, dName_ok rfl, ?_⟩; walk_at "zz"; rfl))))
theorem e_is_number : g_is_number = Zd.g_is_number := rfl
theorem e_read_record : g_read_record = Rk.g_read_record := rfl
theorem e_law_draws : g_law_draws = Zc.g_law_draws := rfl
theorem cell_any (ns : List Int) (k : Int) (h0 : 0 ≤ k) (h : ns.length ≤ 63) : ∃ c : Int, g_law_cell [.scr ns, .int k] = some (.v (.int c)) := by
  unfold g_law_cell t_law_cell
  walk_at "zz"
  by_cases hk : k < (ns.length : Nat)
  · rw [decide_eq_true hk]
    walk_at "zz"
    have e := ix_scr (at_get h0 hk)
    rw [show ((k.toNat : Nat) : Int) = k by omega] at e
    rw [e]
    exact ⟨_, rfl⟩
  · rw [decide_eq_false hk]
    walk_at "zz"
    exact ⟨_, rfl⟩
end Y
end

section
set_option Elab.async false
set_option linter.all false
set_option maxRecDepth 100000
set_option maxHeartbeats 4000000
/-! Records read, further: names with numbers, wardens, the record. -/
namespace Rk
open PySem L2 Zk Zc Zj Zd
theorem cut_le (c : Nat) (a : L) : (cut c a).1.length ≤ a.length ∧ ((cut c a).2.getD []).length ≤ a.length := by
  rcases cut_or c a with ⟨p, q, h1, h2, h3⟩ | ⟨h1, h3⟩
  · rw [h3, h1]
    simp
    omega
  · rw [h3]
    simp
theorem cut_asc (c : Nat) {a : L} (h : asc a = true) : asc (cut c a).1 = true ∧ asc ((cut c a).2.getD []) = true := by
  rcases cut_or c a with ⟨p, q, h1, h2, h3⟩ | ⟨h1, h3⟩
  · rw [h3]
    rw [h1] at h
    unfold asc at *
    rw [List.all_append, List.all_cons, Bool.and_eq_true, Bool.and_eq_true] at h
    exact ⟨h.1, h.2.2⟩
  · rw [h3]
    exact ⟨h, rfl⟩
def oD {α : Type} (f : α → D) : Option α → D
  | some x => f x
  | none => .non
theorem is_num1 {o : Option (List Int)} : isD (numsD o) .non = some (.bl o.isNone) := by cases o <;> rfl
theorem rdNums_len {a : L} {ns : List Int} {b : Nat} (hl : a.length ≤ b) (h : rdNums a = some ns) : ns.length ≤ b + 1 := by
  unfold rdNums at h
  split at h
  · cases h
    rw [List.length_map]
    exact sp_count b a hl
  · cases h
def nmOf (n : L) (m : Bool) : Option (List Int) → Option (L × List Int)
  | some ns => if isName n = true ∧ m = true ∧ riseL ltI (0 :: ns) = true then some (n, ns) else none
  | none => none
def nmNums (r : L) : Option (List Int) := if r = [] then some [] else rdNums r
def rdName (a : L) : Option (L × List Int) := nmOf (cut 61 a).1 (cut 61 a).2.isSome (nmNums ((cut 61 a).2.getD []))
def nmD (r : L × List Int) : D := .tup [dS r.1, .tup (iL r.2)]
local macro_rules | `(tactic| walk_at "zs") => `(tactic| simp only [beq_self_eq_true, Bool.or_false, Bool.false_or, Bool.true_or, Bool.or_true, Bool.and_false, Bool.false_and, Bool.true_and, Bool.and_true, Zc.isi_ii, Zc.isi_ib, Zc.isi_tt, Zc.isi_ll, Zc.rowsT_len, Zc.rowsL_len, Zc.is_integer_call, Zc.ix_p0, Zc.ix_p1, dgTup2_a, dgTup3_a, Bool.not_true, Bool.not_false, mul_lz, List.flatten_cons, List.flatten_nil, Int.reduceToNat, add_ll, pow10_12, pow10_18, pow10_39, pow10_41, pow10_59, pow10_60, mkLst_some, mkTup_some, List.length_cons, List.length_nil, Nat.zero_le, Nat.reduceAdd, Nat.reduceLeDiff, call1, callO1, call2, callO2, call3, callO3, call4, callO4, call5, callO5, call6, callO6, ap1_some, ap2_some, apN_some, apC_some, d1_a, d2_a, dN_a, aNil_a, aCons_a, dC_a, dVar_z, dVar_s, tDt_a, apAnd_t, apAnd_f, apOr_t, apOr_f, dAndT_a, dOrT_a, apNot_some, dNotT_a, apAndV_t, apAndV_f, dAndV_a, apOrV_t, apOrV_f, dOrV_a, apIf_t, apIf_f, dIf_a, apCh_t, apCh_f, apChain_some, dChain_a, apSeq_nx, apSeq_rt, apSeq_ct, apSeq_bk, sSeq_a, apIfS_t, apIfS_f, sIf_a, sNext_a, sCont_a, sBreak_a, apRet_some, sRet_a, apRetO_some, sRetO_a, sRetN_a, getO_z, getO_s, apRetV_some, sRetV_a, ltB_z, ltB_s, okSlot_s, apAsg_some, sAsg_a, dName_ok, apG_some, dgCons_a, dgNil_a, apAsgO_some, sAsgO_a, sApp_a, sSetI_a, apFor_some, sFor_a, dItems_a, dRng1_a, dRng2_a, apEn_some, apEn_tup, dEnum_a, sFrz_a, frzs_nil, frzs_cons, frzI_o, frzI_v, frzI_n, frzI_s, frz1_s, frzAll_nil, frzAll_o, frzAll_v, frzAll_n, peekT_a, apPk_int, apPk_bl, apPk_str, apPk_non, peekF_a, dCall_a, toO_o, dCallO_a, dMake_a, Wd_v, Wd_o, dSl_a, apSl_some, oNone_a, oSome_a, apO_some, add_ii, sub_ii, lt_ii, le_ii, gt_ii, ge_ii, eq_ii, ne_ii, neg_i, not_b, bl_b, tru_b, tru_i, tru_l, tru_t, tru_n, len_l, len_t, len_scr, abs_i, int_i, list_l, list_t, tuple_l, tuple_t, min_ii, max_ii, rev_l, items_l, items_t, iL_len, run_a, outW_rt, outW_nx, List.map_cons, List.map_nil, List.replicate, List.append_nil, List.cons_append, List.nil_append, List.set_cons_zero, List.set_cons_succ, Option.map_some])
local macro_rules | `(tactic| walk_at "zd") => `(tactic| first | ((with_reducible show okSlot _ _ = true); simp only [okSlot_s, ltB_z, ltB_s]; done) | omega | assumption | decide | (simp only [List.length_map, List.length_append, List.length_cons, List.length_nil, List.length_range, List.length_set, List.length_reverse, iL_len, Zc.rowsT_len, Zc.rowsL_len] at *; omega))
local macro_rules | `(tactic| walk_at "zz") => `(tactic| simp (disch := walk_at "zd") only [dgTup2_a, dgTup3_a, Bool.not_true, Bool.not_false, mul_lz, List.flatten_cons, List.flatten_nil, Int.reduceToNat, add_ll, pow10_12, pow10_18, pow10_39, pow10_41, pow10_59, pow10_60, mkLst_some, mkTup_some, List.length_cons, List.length_nil, Nat.zero_le, Nat.reduceAdd, Nat.reduceLeDiff, call1, callO1, call2, callO2, call3, callO3, call4, callO4, call5, callO5, call6, callO6, ap1_some, ap2_some, apN_some, apC_some, d1_a, d2_a, dN_a, aNil_a, aCons_a, dC_a, dVar_z, dVar_s, tDt_a, apAnd_t, apAnd_f, apOr_t, apOr_f, dAndT_a, dOrT_a, apNot_some, dNotT_a, apAndV_t, apAndV_f, dAndV_a, apOrV_t, apOrV_f, dOrV_a, apIf_t, apIf_f, dIf_a, apCh_t, apCh_f, apChain_some, dChain_a, apSeq_nx, apSeq_rt, apSeq_ct, apSeq_bk, sSeq_a, apIfS_t, apIfS_f, sIf_a, sNext_a, sCont_a, sBreak_a, apRet_some, sRet_a, apRetO_some, sRetO_a, sRetN_a, getO_z, getO_s, apRetV_some, sRetV_a, ltB_z, ltB_s, okSlot_s, apAsg_some, sAsg_a, dName_ok, apG_some, dgCons_a, dgNil_a, apAsgO_some, sAsgO_a, sApp_a, sSetI_a, apFor_some, sFor_a, dItems_a, dRng1_a, dRng2_a, apEn_some, apEn_tup, dEnum_a, sFrz_a, frzs_nil, frzs_cons, frzI_o, frzI_v, frzI_n, frzI_s, frz1_s, frzAll_nil, frzAll_o, frzAll_v, frzAll_n, peekT_a, apPk_int, apPk_bl, apPk_str, apPk_non, peekF_a, dCall_a, toO_o, dCallO_a, dMake_a, Wd_v, Wd_o, dSl_a, apSl_some, oNone_a, oSome_a, apO_some, add_ii, sub_ii, lt_ii, le_ii, gt_ii, ge_ii, eq_ii, ne_ii, neg_i, not_b, bl_b, tru_b, tru_i, tru_l, tru_t, tru_n, len_l, len_t, len_scr, abs_i, int_i, list_l, list_t, tuple_l, tuple_t, min_ii, max_ii, rev_l, items_l, items_t, iL_len, run_a, outW_rt, outW_nx, List.map_cons, List.map_nil, List.replicate, List.append_nil, List.cons_append, List.nil_append, List.set_cons_zero, List.set_cons_succ, Option.map_some, Int.reduceAdd, Int.reduceMul, Int.reduceSub, Int.reduceNeg, beq_self_eq_true, Bool.or_false, Bool.false_or, Bool.true_or, Bool.or_true, Bool.and_false, Bool.false_and, Bool.true_and, Bool.and_true, Zc.isi_ii, Zc.isi_ib, Zc.isi_tt, Zc.isi_ll, Zc.rowsT_len, Zc.rowsL_len, Zc.is_integer_call, Zc.ix_p0, Zc.ix_p1, apR1_any, Int.toNat_natCast, apR2_some, mod_ii, fdiv_ii, mul_small, apApp_some, ix_at, ix_atT, ix_atI, ix_atIT, ix_atR, ix_atRT, List.length_map, List.length_append, List.length_range, List.length_set, Option.map_none, Option.map_map, decide_true, decide_false, peekO_a, apPkO_i, frz_wo, frz_wv, frz_kk, wipeG_nil, wipeG_cons, orB_s, orB_t, orB_f, andB_s, andB_t, andB_f, orV_s, orV_t, orV_f, andV_s, andV_t, andV_f, apOr_b, apAnd_b, apOrV_b, apAndV_b, apCh_b, Zc.cut_from, Zc.cut_to, in_l, in_t, in_pr, eq_op_op, eq_op_pr, eq_pr_op, eq_pr_pr, ne_op_op, ne_op_pr, ne_pr_op, ne_pr_pr, isnt_op, is_op, pr_0, pr_1, st_0, st_1, inP_pr, ninP_pr, nin_l, isi_prt, len_pr, op_some, prD_eq, ix_lit2, ix_lit3, ix_lit4, ix_lit5, ix_lit6, ix_lit7, ix_lit8, ix_lit9, ix_lit10, ix_lit11, ix_lit12, ix_lit13, ix_lit14, ix_lit15, setI_i, setI_p, setI_o, setI_n, snoc_i, snoc_r, snoc_p, snoc_n, snoc_o, snoc_pp, snoc_s, eq_ol, ne_ol, eq_pl, ne_pl, eq_sl, ne_sl, eq_il, ne_il, eq_rl, ne_rl, eq_il1, isi_bb, eq_bb, ne_bb, eq_self, lit, dM1_a, apM1_S, dM0_a, apM0_S, Bool.not_true, Bool.not_false, is_tn, is_nn, is_ln, dTxt_a, apTxt_S, Int.reduceBEq, ca, cz, c0, c9, cComma, cEq, cCol, cSl, cSemi, cSp, dZip_a, apZip_l, is_num1, List.isEmpty_nil, List.isEmpty_cons, Bool.false_eq_true, reduceIte, Option.isNone_none, Option.isNone_some])
local macro_rules | `(tactic| walk_at "zf") => `(tactic| first | (walk_at "zz"; done) | (walk_at "zz"; rfl) | rfl)
local macro_rules | `(tactic| walk_at "lc") => `(tactic| ((case hf => rfl); (case hi => first | (walk_at "zz"; done) | (walk_at "zz"; rfl) | rfl); (case hl => walk_at "zd"); (case h => (intro a ha; refine ⟨_, dName_ok rfl, ?_, fun hT => ?_⟩ <;> walk_at "zz" <;> rfl))))
local macro_rules | `(tactic| walk_at "lm") => `(tactic| ((case hf => rfl); (case hi => first | (walk_at "zz"; done) | (walk_at "zz"; rfl) | rfl); (case hl => walk_at "zd"); (case h => (intro a ha; refine ⟨_, dName_ok rfl, ?_⟩; walk_at "zz"; rfl))))
theorem read_name_spec {a : L} (ha : asc a = true) (hl : a.length ≤ 640) : g_read_name [dS a] = some (.v (oD nmD (rdName a))) := by
  unfold g_read_name t_read_name
  walk_at "zz"
  rw [part_S (by omega)]
  walk_at "zz"
  obtain ⟨l1, l2⟩ := cut_le 61 a
  obtain ⟨a1, a2⟩ := cut_asc 61 ha
  unfold rdName
  generalize (cut 61 a).1 = n at l1 a1 ⊢
  generalize hr : (cut 61 a).2.getD [] = r at l2 a2 ⊢
  generalize (cut 61 a).2.isSome = m at ⊢
  rw [tru_S (by omega)]
  have key : ∀ o : Option (List Int), (∀ ns, o = some ns → ns.length ≤ 641) → ∀ g : Gm, g = [some (.v (dS a)), some (.v (dS n)), some (.v (dS (if m = true then [61] else []))), some (.v (dS r)), some (.v (numsD o))] →
      outW ((sSeq (sIf (dOrT (dNotT (tDt truD (dCall 1 (g_is_name) (aCons (dVar 1) aNil)))) (dOrT (dNotT (tDt truD (dVar 2))) (dOrT (tDt blD (d2 isD (dVar 4) (dC .non))) (dNotT (tDt truD (dCall 1 (g_count) (aCons (dVar 4) aNil)))))))
 (sRet (dC .non))
 sNext)
 (sRet (dN mkTup (aCons (dVar 1) (aCons (dN tupleD (aCons (dVar 4) aNil)) aNil))))) g) = some (.v (oD nmD (nmOf n m o))) := fun o ho g hg => by
    subst hg
    walk_at "zz"
    rw [is_name_spec (by omega)]
    cases hn : isName n
    · walk_at "zz"
      cases o <;> simp [nmOf, hn, oD]
    · walk_at "zz"
      rw [tru_S (by cases m <;> simp)]
      cases m
      · walk_at "zz"
        cases o <;> simp [nmOf, oD]
      · cases o with
        | none => walk_at "zz"; rfl
        | some ns =>
          have hns := ho ns rfl
          show outW (sSeq _ _ [some (.v (dS a)), some (.v (dS n)), some (.v (dS (if true = true then [61] else []))), some (.v (dS r)), some (.v (.lst (iL ns)))]) = _
          walk_at "zz"
          rw [show numsD (some ns) = D.lst (iL ns) from rfl, count_spec (by omega)]
          unfold nmOf
          rw [hn]
          cases hc : riseL ltI (0 :: ns)
          · walk_at "zz"
            rw [if_neg (fun z => Bool.false_ne_true (hc.symm.trans z.2.2))]
            rfl
          · walk_at "zz"
            rw [if_pos ⟨trivial, trivial, hc⟩]
            rfl
  by_cases hr0 : r = []
  · subst hr0
    walk_at "zz"
    rw [show nmNums [] = some [] from rfl]
    exact key (some []) (fun ns e => by cases e; simp) _ rfl
  · have e1 : (!r.isEmpty) = true := by cases r with | nil => exact absurd rfl hr0 | cons x r => rfl
    rw [e1]
    walk_at "zz"
    rw [read_joined_spec a2 (by omega)]
    walk_at "zz"
    rw [show nmNums r = rdNums r from if_neg hr0]
    exact key (rdNums r) (fun ns e => rdNums_len (by omega) e) _ rfl
/-! ### wardens -/
def wdOf (n : L) : Option (List Int) → Option (Int × Int × Int)
  | some [x, y] => if isNum n = true ∧ x < y then some (val n, x, y) else none
  | _ => none
def rdWarden (a : L) : Option (Int × Int × Int) := wdOf (cut 58 a).1 (rdNums ((cut 58 a).2.getD []))
def wdD (w : Int × Int × Int) : D := .tup [.int w.1, .int w.2.1, .int w.2.2]
theorem read_warden_spec {a : L} (ha : asc a = true) (hl : a.length ≤ 640) : g_read_warden [dS a] = some (.v (oD wdD (rdWarden a))) := by
  unfold g_read_warden t_read_warden
  walk_at "zz"
  rw [part_S (by omega)]
  walk_at "zz"
  obtain ⟨l1, l2⟩ := cut_le 58 a
  obtain ⟨a1, a2⟩ := cut_asc 58 ha
  unfold rdWarden
  generalize (cut 58 a).1 = n at l1 a1 ⊢
  generalize (cut 58 a).2.getD [] = r at l2 a2 ⊢
  rw [read_joined_spec a2 (by omega)]
  have hlen : ∀ ns, rdNums r = some ns → ns.length ≤ 641 := fun ns e => rdNums_len (by omega) e
  generalize rdNums r = o at hlen ⊢
  walk_at "zz"
  rw [e_is_number, is_number_spec a1]
  cases hn : isNum n
  · walk_at "zz"
    match o with
    | none => rfl
    | some [] => rfl
    | some [x] => rfl
    | some [x, y] => show _ = some (Wd.v (oD wdD (if isNum n = true ∧ x < y then _ else none))); rw [hn, if_neg (fun z => Bool.false_ne_true z.1)]; rfl
    | some (x :: y :: z :: r) => rfl
  · walk_at "zz"
    cases o with
    | none => walk_at "zz"; rfl
    | some ns =>
      have hns := hlen ns rfl
      rw [show numsD (some ns) = D.lst (iL ns) from rfl]
      walk_at "zz"
      by_cases h2 : ns.length = 2
      · match ns, h2 with
        | [x, y], _ =>
          rw [show (!((([x, y] : List Int).length : Nat) : Int) == 2) = false from rfl, rise_ints (by simp)]
          rw [show riseL ltI [x, y] = decide (x < y) from Bool.and_true _]
          by_cases hxy : x < y
          · rw [decide_eq_true hxy, show wdOf n (some [x, y]) = some (val n, x, y) from if_pos ⟨hn, hxy⟩]
            walk_at "zz"
            rw [intS_val hn (by omega)]
            walk_at "zz"
            rfl
          · rw [decide_eq_false hxy, show wdOf n (some [x, y]) = none from if_neg (fun z => hxy z.2)]
            walk_at "zz"
            rfl
      · have e1 : (!((ns.length : Nat) : Int) == 2) = true := by
          cases z : (((ns.length : Nat) : Int) == 2) with
          | false => rfl
          | true => have := eq_of_beq z; omega
        have e2 : wdOf n (some ns) = none := by
          match ns, h2 with
          | [], _ => rfl
          | [x], _ => rfl
          | [x, y], h => exact absurd rfl h
          | x :: y :: z :: r, _ => rfl
        rw [e1, e2]
        walk_at "zz"
        rfl
def allSome {α β : Type} (f : α → Option β) : List α → Option (List β)
  | [] => some []
  | x :: xs => (f x).bind fun y => (allSome f xs).map (y :: ·)
theorem allSome_yes {α β : Type} {f : α → Option β} : ∀ {xs : List α} {ys : List β}, allSome f xs = some ys → xs.map f = ys.map some
  | [], ys, h => by cases h; rfl
  | x :: xs, ys, h => by
    unfold allSome at h
    cases e : f x with
    | none => rw [e] at h; cases h
    | some y =>
      rw [e, Option.bind_some] at h
      cases e2 : allSome f xs with
      | none => rw [e2] at h; cases h
      | some zs =>
        rw [e2] at h
        cases h
        rw [List.map_cons, List.map_cons, e, allSome_yes e2]
theorem allSome_any {α β : Type} {f : α → Option β} : ∀ {xs : List α}, (xs.any fun x => (f x).isNone) = (allSome f xs).isNone
  | [] => rfl
  | x :: xs => by
    rw [List.any_cons]
    unfold allSome
    cases e : f x with
    | none => rfl
    | some y =>
      rw [allSome_any]
      cases allSome f xs <;> rfl
theorem allSome_len {α β : Type} {f : α → Option β} {xs : List α} {ys : List β} (h : allSome f xs = some ys) : ys.length = xs.length := by
  have := congrArg List.length (allSome_yes h)
  simpa using this.symm
def wdP (w : Int × Int × Int) : PyData := .tuple [.int w.1, .int w.2.1, .int w.2.2]
def nmP (r : L × List Int) : PyData := .tuple [.str (SX.S r.1), .tuple (r.2.map PyData.int)]
def oP {α : Type} (f : α → PyData) : Option α → PyData
  | some x => f x
  | none => .none
theorem none_in {α β : Type} {F : α → Option β} {f : β → D} {p : β → PyData} {xs : List α} (h1 : ∀ y, toP (f y) = some (p y)) (h2 : ∀ x ∈ xs, ∀ y, F x = some y → (p y).canLay0 = true) (h3 : ∀ y, ∃ zs, p y = .tuple zs) : inPD .non (.lst (xs.map fun x => oD f (F x))) = some (.bl (allSome F xs).isNone) := by
  rw [in_gen (f := fun x => oD f (F x)) (p := fun x => oP p (F x)) (b := fun x => (F x).isNone) (q := .none) rfl (by decide) (fun x _ => ?_) (fun x m => ?_) (fun x _ => ?_), allSome_any]
  · cases F x with
    | none => rfl
    | some y => exact h1 y
  · cases e : F x with
    | none => rfl
    | some y => exact h2 x m y e
  · cases F x with
    | none => rfl
    | some y =>
      obtain ⟨zs, h⟩ := h3 y
      show PyData.eqv (p y) .none = _
      rw [h]
      rfl
def rdWards (r : Ws) : Option (List (Int × Int × Int)) := (allSome rdWarden r).bind fun es => if riseL ltI (0 :: es.map (·.1)) = true then some es else none
def rdWardens : Ws → Option (List (Int × Int × Int))
  | [] => none
  | w :: r => if w = [47] then rdWards r else none
def wsD (es : List (Int × Int × Int)) : D := .tup (es.map wdD)
theorem read_wardens_spec {ws : Ws} (ha : ∀ w ∈ ws, asc w = true) (hl : ∀ w ∈ ws, w.length ≤ 640) (hn : ws.length ≤ 700) : g_read_wardens [.lst (ws.map dS)] = some (.v (oD wsD (rdWardens ws))) := by
  unfold g_read_wardens t_read_wardens
  cases ws with
  | nil =>
    walk_at "zz"
    rfl
  | cons w r =>
    rw [List.map_cons]
    walk_at "zz"
    rw [show ixD (D.lst (dS w :: r.map dS)) (D.int 0) = some (dS w) from at_nat (a := dS w :: r.map dS) (n := 0) (by simp)]
    walk_at "zz"
    rw [ne_S (ha w List.mem_cons_self) (by decide)]
    by_cases hw : w = [47]
    · rw [decide_eq_true hw, show rdWardens (w :: r) = rdWards r from if_pos hw]
      walk_at "zz"
      have hr1 : r.length ≤ 699 := by simp at hn; omega
      rewrite [dLc_map dS (xs := r) (F := fun a => oD wdD (rdWarden a))]
      case hf => rfl
      case hi =>
        walk_at "zz"
        exact congrArg some (Zc.cut_from (dS w :: r.map dS) 1)
      case hl => omega
      case h =>
        intro x hm
        refine ⟨_, dName_ok rfl, ?_⟩
        walk_at "zz"
        rw [read_warden_spec (ha x (List.mem_cons_of_mem _ hm)) (hl x (List.mem_cons_of_mem _ hm))]
        walk_at "zz"
      walk_at "zz"
      rw [none_in (F := rdWarden) (f := wdD) (p := wdP) (fun _ => rfl) (fun _ _ _ _ => rfl) fun _ => ⟨_, rfl⟩]
      unfold rdWards
      cases he : allSome rdWarden r with
      | none => walk_at "zz"; rfl
      | some es =>
        have hes := allSome_len he
        have e3 : (r.map fun a => oD wdD (rdWarden a)) = es.map wdD := by
          have := congrArg (List.map (oD wdD)) (allSome_yes he)
          rw [List.map_map, List.map_map] at this
          exact this
        rw [e3]
        walk_at "zz"
        rewrite [dLc_map wdD (xs := es) (F := fun e => D.int e.1)]
        case hf => rfl
        case hi => walk_at "zz"
        case hl => omega
        case h =>
          intro e hm
          exact ⟨_, rfl, rfl⟩
        walk_at "zz"
        rw [show (es.map fun e => D.int e.1) = iL (es.map (·.1)) from by unfold iL; rw [List.map_map]; rfl, count_spec (by rw [List.length_map]; omega), Option.bind_some]
        cases hc : riseL ltI (0 :: es.map (·.1))
        · walk_at "zz"
          rfl
        · walk_at "zz"
          rfl
    · rw [decide_eq_false hw, show rdWardens (w :: r) = none from if_neg hw]
      walk_at "zz"
      rfl
end Rk
end

section
set_option Elab.async false
set_option linter.all false
set_option maxRecDepth 100000
set_option maxHeartbeats 4000000
/-! Records read, at last: a picture, a put, a deal, a cap, an erase. -/
namespace Rk
open PySem L2 Zk Zc Zj Zd
inductive Rec where
  | pic (caps : List Int) (ns : List (L × List Int)) (es : List (Int × Int × Int))
  | put (n : L) (is : List Int) (es : List (Int × Int × Int))
  | era (n : L)
  | deal (es : List (Int × Int × Int))
  | cap (s c : Int) (es : List (Int × Int × Int))
def recD : Rec → D
  | .pic caps ns es => .tup [dS (codes "picture"), .tup (iL caps), .tup (ns.map nmD), wsD es]
  | .put n is es => .tup [dS (codes "put"), dS n, .tup (iL is), wsD es]
  | .era n => .tup [dS (codes "erase"), dS n]
  | .deal es => .tup [dS (codes "deal"), wsD es]
  | .cap s c es => .tup [dS (codes "cap"), .int s, .int c, wsD es]
def rdPic (ws : Ws) : Option Rec := if [47] ∈ ws then (rdNums (ws.headD [])).bind fun caps => (allSome rdName ((ws.take (ws.idxOf [47])).drop 1)).bind fun ns => (rdWardens (ws.drop (ws.idxOf [47]))).bind fun es =>
  if riseL ltS (ns.map (·.1)) = true then some (.pic caps ns es) else none else none
def rdPut : Ws → Option Rec
  | [] => none
  | w :: r => (rdName w).bind fun n => (rdWardens r).map fun es => .put n.1 n.2 es
def rdDeal (ws : Ws) : Option Rec := (rdWardens ws).map .deal
def rdCap : Ws → Option Rec
  | a :: b :: r => (rdWardens r).bind fun es => if isNum a = true ∧ isNum b = true then some (.cap (val a) (val b) es) else none
  | _ => none
def rdEra : Ws → Option Rec
  | [w] => if isName w = true then some (.era w) else none
  | _ => none
def rdBody : Ws → Option Rec
  | [] => none
  | w :: ws => if w = codes "picture" then rdPic ws else if w = codes "put" then rdPut ws else if w = codes "erase" then rdEra ws else if w = codes "deal" then rdDeal ws else if w = codes "cap" then rdCap ws else none
theorem rdBody_cons {w : L} {ws : Ws} : rdBody (w :: ws) = if w = codes "picture" then rdPic ws else if w = codes "put" then rdPut ws else if w = codes "erase" then rdEra ws else if w = codes "deal" then rdDeal ws else if w = codes "cap" then rdCap ws else none := rfl
def rdRec (t : L) : Option Rec := if (cut 59 t).2 = some [] then rdBody (sp 32 (cut 59 t).1) else none
theorem is_o1 {o : Option (List Int)} : isD (numsD o) .non = some (.bl o.isNone) := by cases o <;> rfl
theorem is_o2 {o : Option (List (Int × Int × Int))} : isD (oD wsD o) .non = some (.bl o.isNone) := by cases o <;> rfl
theorem is_o3 {o : Option (L × List Int)} : isD (oD nmD o) .non = some (.bl o.isNone) := by cases o <;> rfl
local macro_rules | `(tactic| walk_at "zs") => `(tactic| simp only [beq_self_eq_true, Bool.or_false, Bool.false_or, Bool.true_or, Bool.or_true, Bool.and_false, Bool.false_and, Bool.true_and, Bool.and_true, Zc.isi_ii, Zc.isi_ib, Zc.isi_tt, Zc.isi_ll, Zc.rowsT_len, Zc.rowsL_len, Zc.is_integer_call, Zc.ix_p0, Zc.ix_p1, dgTup2_a, dgTup3_a, Bool.not_true, Bool.not_false, mul_lz, List.flatten_cons, List.flatten_nil, Int.reduceToNat, add_ll, pow10_12, pow10_18, pow10_39, pow10_41, pow10_59, pow10_60, mkLst_some, mkTup_some, List.length_cons, List.length_nil, Nat.zero_le, Nat.reduceAdd, Nat.reduceLeDiff, call1, callO1, call2, callO2, call3, callO3, call4, callO4, call5, callO5, call6, callO6, ap1_some, ap2_some, apN_some, apC_some, d1_a, d2_a, dN_a, aNil_a, aCons_a, dC_a, dVar_z, dVar_s, tDt_a, apAnd_t, apAnd_f, apOr_t, apOr_f, dAndT_a, dOrT_a, apNot_some, dNotT_a, apAndV_t, apAndV_f, dAndV_a, apOrV_t, apOrV_f, dOrV_a, apIf_t, apIf_f, dIf_a, apCh_t, apCh_f, apChain_some, dChain_a, apSeq_nx, apSeq_rt, apSeq_ct, apSeq_bk, sSeq_a, apIfS_t, apIfS_f, sIf_a, sNext_a, sCont_a, sBreak_a, apRet_some, sRet_a, apRetO_some, sRetO_a, sRetN_a, getO_z, getO_s, apRetV_some, sRetV_a, ltB_z, ltB_s, okSlot_s, apAsg_some, sAsg_a, dName_ok, apG_some, dgCons_a, dgNil_a, apAsgO_some, sAsgO_a, sApp_a, sSetI_a, apFor_some, sFor_a, dItems_a, dRng1_a, dRng2_a, apEn_some, apEn_tup, dEnum_a, sFrz_a, frzs_nil, frzs_cons, frzI_o, frzI_v, frzI_n, frzI_s, frz1_s, frzAll_nil, frzAll_o, frzAll_v, frzAll_n, peekT_a, apPk_int, apPk_bl, apPk_str, apPk_non, peekF_a, dCall_a, toO_o, dCallO_a, dMake_a, Wd_v, Wd_o, dSl_a, apSl_some, oNone_a, oSome_a, apO_some, add_ii, sub_ii, lt_ii, le_ii, gt_ii, ge_ii, eq_ii, ne_ii, neg_i, not_b, bl_b, tru_b, tru_i, tru_l, tru_t, tru_n, len_l, len_t, len_scr, abs_i, int_i, list_l, list_t, tuple_l, tuple_t, min_ii, max_ii, rev_l, items_l, items_t, iL_len, run_a, outW_rt, outW_nx, List.map_cons, List.map_nil, List.replicate, List.append_nil, List.cons_append, List.nil_append, List.set_cons_zero, List.set_cons_succ, Option.map_some])
local macro_rules | `(tactic| walk_at "zd") => `(tactic| first | ((with_reducible show okSlot _ _ = true); simp only [okSlot_s, ltB_z, ltB_s]; done) | omega | assumption | decide | (simp only [List.length_map, List.length_append, List.length_cons, List.length_nil, List.length_range, List.length_set, List.length_reverse, iL_len, Zc.rowsT_len, Zc.rowsL_len] at *; omega))
local macro_rules | `(tactic| walk_at "zz") => `(tactic| simp (disch := walk_at "zd") only [dgTup2_a, dgTup3_a, Bool.not_true, Bool.not_false, mul_lz, List.flatten_cons, List.flatten_nil, Int.reduceToNat, add_ll, pow10_12, pow10_18, pow10_39, pow10_41, pow10_59, pow10_60, mkLst_some, mkTup_some, List.length_cons, List.length_nil, Nat.zero_le, Nat.reduceAdd, Nat.reduceLeDiff, call1, callO1, call2, callO2, call3, callO3, call4, callO4, call5, callO5, call6, callO6, ap1_some, ap2_some, apN_some, apC_some, d1_a, d2_a, dN_a, aNil_a, aCons_a, dC_a, dVar_z, dVar_s, tDt_a, apAnd_t, apAnd_f, apOr_t, apOr_f, dAndT_a, dOrT_a, apNot_some, dNotT_a, apAndV_t, apAndV_f, dAndV_a, apOrV_t, apOrV_f, dOrV_a, apIf_t, apIf_f, dIf_a, apCh_t, apCh_f, apChain_some, dChain_a, apSeq_nx, apSeq_rt, apSeq_ct, apSeq_bk, sSeq_a, apIfS_t, apIfS_f, sIf_a, sNext_a, sCont_a, sBreak_a, apRet_some, sRet_a, apRetO_some, sRetO_a, sRetN_a, getO_z, getO_s, apRetV_some, sRetV_a, ltB_z, ltB_s, okSlot_s, apAsg_some, sAsg_a, dName_ok, apG_some, dgCons_a, dgNil_a, apAsgO_some, sAsgO_a, sApp_a, sSetI_a, apFor_some, sFor_a, dItems_a, dRng1_a, dRng2_a, apEn_some, apEn_tup, dEnum_a, sFrz_a, frzs_nil, frzs_cons, frzI_o, frzI_v, frzI_n, frzI_s, frz1_s, frzAll_nil, frzAll_o, frzAll_v, frzAll_n, peekT_a, apPk_int, apPk_bl, apPk_str, apPk_non, peekF_a, dCall_a, toO_o, dCallO_a, dMake_a, Wd_v, Wd_o, dSl_a, apSl_some, oNone_a, oSome_a, apO_some, add_ii, sub_ii, lt_ii, le_ii, gt_ii, ge_ii, eq_ii, ne_ii, neg_i, not_b, bl_b, tru_b, tru_i, tru_l, tru_t, tru_n, len_l, len_t, len_scr, abs_i, int_i, list_l, list_t, tuple_l, tuple_t, min_ii, max_ii, rev_l, items_l, items_t, iL_len, run_a, outW_rt, outW_nx, List.map_cons, List.map_nil, List.replicate, List.append_nil, List.cons_append, List.nil_append, List.set_cons_zero, List.set_cons_succ, Option.map_some, Int.reduceAdd, Int.reduceMul, Int.reduceSub, Int.reduceNeg, beq_self_eq_true, Bool.or_false, Bool.false_or, Bool.true_or, Bool.or_true, Bool.and_false, Bool.false_and, Bool.true_and, Bool.and_true, Zc.isi_ii, Zc.isi_ib, Zc.isi_tt, Zc.isi_ll, Zc.rowsT_len, Zc.rowsL_len, Zc.is_integer_call, Zc.ix_p0, Zc.ix_p1, apR1_any, Int.toNat_natCast, apR2_some, mod_ii, fdiv_ii, mul_small, apApp_some, ix_at, ix_atT, ix_atI, ix_atIT, ix_atR, ix_atRT, List.length_map, List.length_append, List.length_range, List.length_set, Option.map_none, Option.map_map, decide_true, decide_false, peekO_a, apPkO_i, frz_wo, frz_wv, frz_kk, wipeG_nil, wipeG_cons, orB_s, orB_t, orB_f, andB_s, andB_t, andB_f, orV_s, orV_t, orV_f, andV_s, andV_t, andV_f, apOr_b, apAnd_b, apOrV_b, apAndV_b, apCh_b, Zc.cut_from, Zc.cut_to, in_l, in_t, in_pr, eq_op_op, eq_op_pr, eq_pr_op, eq_pr_pr, ne_op_op, ne_op_pr, ne_pr_op, ne_pr_pr, isnt_op, is_op, pr_0, pr_1, st_0, st_1, inP_pr, ninP_pr, nin_l, isi_prt, len_pr, op_some, prD_eq, ix_lit2, ix_lit3, ix_lit4, ix_lit5, ix_lit6, ix_lit7, ix_lit8, ix_lit9, ix_lit10, ix_lit11, ix_lit12, ix_lit13, ix_lit14, ix_lit15, setI_i, setI_p, setI_o, setI_n, snoc_i, snoc_r, snoc_p, snoc_n, snoc_o, snoc_pp, snoc_s, eq_ol, ne_ol, eq_pl, ne_pl, eq_sl, ne_sl, eq_il, ne_il, eq_rl, ne_rl, eq_il1, isi_bb, eq_bb, ne_bb, eq_self, lit, dM1_a, apM1_S, dM0_a, apM0_S, Bool.not_true, Bool.not_false, is_tn, is_nn, is_ln, dTxt_a, apTxt_S, Int.reduceBEq, ca, cz, c0, c9, cComma, cEq, cCol, cSl, cSemi, cSp, dZip_a, apZip_l, is_o1, is_o2, is_o3, List.isEmpty_nil, List.isEmpty_cons, Bool.false_eq_true, reduceIte, Option.isNone_none, Option.isNone_some, sStar_a])
local macro_rules | `(tactic| walk_at "zf") => `(tactic| first | (walk_at "zz"; done) | (walk_at "zz"; rfl) | rfl)
local macro_rules | `(tactic| walk_at "lc") => `(tactic| ((case hf => rfl); (case hi => first | (walk_at "zz"; done) | (walk_at "zz"; rfl) | rfl); (case hl => walk_at "zd"); (case h => (intro a ha; refine ⟨_, dName_ok rfl, ?_, fun hT => ?_⟩ <;> walk_at "zz" <;> rfl))))
local macro_rules | `(tactic| walk_at "lm") => `(tactic| ((case hf => rfl); (case hi => first | (walk_at "zz"; done) | (walk_at "zz"; rfl) | rfl); (case hl => walk_at "zd"); (case h => (intro a ha; refine ⟨_, dName_ok rfl, ?_⟩; walk_at "zz"; rfl))))
theorem read_deal_spec {ws : Ws} (ha : ∀ w ∈ ws, asc w = true) (hl : ∀ w ∈ ws, w.length ≤ 640) (hn : ws.length ≤ 700) : g_read_deal [.lst (ws.map dS)] = some (.v (oD recD (rdDeal ws))) := by
  unfold g_read_deal t_read_deal
  walk_at "zz"
  rw [read_wardens_spec ha hl hn]
  unfold rdDeal
  cases rdWardens ws with
  | none => walk_at "zz"; rfl
  | some es => walk_at "zz"; rfl
theorem read_put_spec {ws : Ws} (ha : ∀ w ∈ ws, asc w = true) (hl : ∀ w ∈ ws, w.length ≤ 640) (hn : ws.length ≤ 700) : g_read_put [.lst (ws.map dS)] = some (.v (oD recD (rdPut ws))) := by
  unfold g_read_put t_read_put
  cases ws with
  | nil =>
    walk_at "zz"
    rw [show cutL ([] : List D) (some 1) none = ([] : Ws).map dS from rfl, read_wardens_spec (ws := []) (by simp) (by simp) (by simp)]
    walk_at "zz"
    rfl
  | cons w r =>
    rw [List.map_cons]
    walk_at "zz"
    rw [show ixD (D.lst (dS w :: r.map dS)) (D.int 0) = some (dS w) from at_nat (a := dS w :: r.map dS) (n := 0) (by simp)]
    walk_at "zz"
    rw [read_name_spec (ha w List.mem_cons_self) (hl w List.mem_cons_self)]
    walk_at "zz"
    rw [show cutL (dS w :: r.map dS) (some 1) none = r.map dS from Zc.cut_from (dS w :: r.map dS) 1, read_wardens_spec (fun x m => ha x (List.mem_cons_of_mem _ m)) (fun x m => hl x (List.mem_cons_of_mem _ m)) (by simp at hn; omega)]
    show _ = some (Wd.v (oD recD ((rdName w).bind fun n => (rdWardens r).map fun es => .put n.1 n.2 es)))
    cases rdName w with
    | none => walk_at "zz"; rfl
    | some n =>
      cases rdWardens r with
      | none => walk_at "zz"; rfl
      | some es => walk_at "zz"; rfl
theorem read_cap_spec {ws : Ws} (ha : ∀ w ∈ ws, asc w = true) (hl : ∀ w ∈ ws, w.length ≤ 640) (hn : ws.length ≤ 700) : g_read_cap [.lst (ws.map dS)] = some (.v (oD recD (rdCap ws))) := by
  unfold g_read_cap t_read_cap
  walk_at "zz"
  have e1 : cutL (ws.map dS) none (some 2) = (ws.take 2).map dS := by
    have z := Zc.cut_to (ws.map dS) 2
    rw [← List.map_take] at z
    exact z
  have e2 : cutL (ws.map dS) (some 2) none = (ws.drop 2).map dS := by
    have z := Zc.cut_from (ws.map dS) 2
    rw [← List.map_drop] at z
    exact z
  rw [e1, e2, read_wardens_spec (fun x m => ha x (List.mem_of_mem_drop m)) (fun x m => hl x (List.mem_of_mem_drop m)) (by rw [List.length_drop]; omega)]
  walk_at "zz"
  rewrite [dLc_map dS (xs := ws.take 2) (F := fun a => D.bl (isNum a))]
  case hf => rfl
  case hi => walk_at "zz"
  case hl => rw [List.length_take]; omega
  case h =>
    intro w hm
    refine ⟨_, dName_ok rfl, ?_⟩
    walk_at "zz"
    rw [e_is_number, is_number_spec (ha w (List.mem_of_mem_take hm))]
    walk_at "zz"
  walk_at "zz"
  rw [all_bls]
  match ws with
  | [] => 
    show _ = some (Wd.v D.non)
    rw [show rdWardens (([] : Ws).drop 2) = none from rfl]
    walk_at "zz"
  | [a] =>
    show _ = some (Wd.v D.non)
    rw [show rdWardens (([a] : Ws).drop 2) = none from rfl]
    cases (([a] : Ws).take 2).all isNum
    · walk_at "zz"
    · walk_at "zz"
  | a :: b :: r =>
    show _ = some (Wd.v (oD recD ((rdWardens r).bind fun es => if isNum a = true ∧ isNum b = true then some (.cap (val a) (val b) es) else none)))
    rw [show (a :: b :: r).drop 2 = r from rfl, show ((a :: b :: r).take 2).all isNum = (isNum a && (isNum b && true)) from rfl, show (a :: b :: r).take 2 = [a, b] from rfl]
    cases hx : isNum a
    · walk_at "zz"
      cases rdWardens r <;> simp [oD]
    · cases hy : isNum b
      · walk_at "zz"
        cases rdWardens r <;> simp [oD]
      · cases rdWardens r with
        | none => walk_at "zz"; rfl
        | some es =>
          walk_at "zz"
          rw [show ixD (.lst [dS a, dS b]) (.int 0) = some (dS a) from rfl, show ixD (.lst [dS a, dS b]) (.int 1) = some (dS b) from rfl]
          walk_at "zz"
          rw [intS_val hx (hl a (by simp)), intS_val hy (hl b (by simp))]
          walk_at "zz"
          rfl
theorem cut_mid {α : Type} (xs : List α) (k : Nat) : cutL xs (some 1) (some (k : Int)) = (xs.take k).drop 1 := by
  unfold cutL
  rw [HT.sIx_nat, show (some (1 : Int)) = some ((1 : Nat) : Int) from rfl, HT.sIx_nat]
  by_cases h : 1 ≤ xs.length
  · rw [Nat.min_eq_left h, List.drop_take]
    by_cases h2 : k ≤ xs.length
    · rw [Nat.min_eq_left h2]
    · rw [Nat.min_eq_right (by omega), List.take_of_length_le (by rw [List.length_drop]; omega), List.take_of_length_le (by rw [List.length_drop]; omega)]
  · have : xs = [] := List.length_eq_zero_iff.mp (by omega)
    subst this
    simp
theorem rdName_asc {a : L} {y : L × List Int} (ha : asc a = true) (e : rdName a = some y) : asc y.1 = true := by
  unfold rdName nmOf at e
  split at e
  · split at e
    · cases e
      exact (cut_asc 61 ha).1
    · cases e
  · cases e
theorem ltA_S (a b : L) : Zra.ltA (dS a) (dS b) = some (.bl (ltS a b)) := by
  show some (D.bl (ltTf (SX.S a) (SX.S b))) = _
  rfl
theorem read_pic_spec {ws : Ws} (ha : ∀ w ∈ ws, asc w = true) (hl : ∀ w ∈ ws, w.length ≤ 640) (hn : ws.length ≤ 700) : g_read_picture [.lst (ws.map dS)] = some (.v (oD recD (rdPic ws))) := by
  unfold g_read_picture t_read_picture
  walk_at "zz"
  rw [nin_S1 (by decide) ha]
  unfold rdPic
  by_cases hm : [47] ∈ ws
  · rw [if_pos hm, decide_eq_true hm]
    walk_at "zz"
    rw [idx_S (by decide) ha (by omega) hm]
    walk_at "zz"
    have hk : ws.idxOf [47] < ws.length := List.idxOf_lt_length_of_mem hm
    generalize ws.idxOf [47] = k at hk ⊢
    obtain ⟨w, r, hw⟩ : ∃ w r, ws = w :: r := by
      cases ws with
      | nil => cases hm
      | cons w r => exact ⟨w, r, rfl⟩
    have e0 : ixD (.lst (ws.map dS)) (.int 0) = some (dS w) := by
      rw [hw]
      exact at_nat (a := dS w :: r.map dS) (n := 0) (by simp)
    have e1 : ws.headD [] = w := by rw [hw]; rfl
    rw [e0, e1]
    walk_at "zz"
    rw [read_joined_spec (ha w (by rw [hw]; exact List.mem_cons_self)) (hl w (by rw [hw]; exact List.mem_cons_self))]
    walk_at "zz"
    have em : ∀ x ∈ (ws.take k).drop 1, x ∈ ws := fun x m => List.mem_of_mem_take (List.mem_of_mem_drop m)
    rewrite [dLc_map dS (xs := (ws.take k).drop 1) (F := fun a => oD nmD (rdName a))]
    case hf => rfl
    case hi =>
      walk_at "zz"
      rw [cut_mid, List.map_drop, List.map_take]
    case hl => rw [List.length_drop, List.length_take]; omega
    case h =>
      intro x m
      refine ⟨_, dName_ok rfl, ?_⟩
      walk_at "zz"
      rw [read_name_spec (ha x (em x m)) (hl x (em x m))]
      walk_at "zz"
    walk_at "zz"
    have e2 : (ws.map dS).drop k = (ws.drop k).map dS := List.map_drop.symm
    rw [e2, read_wardens_spec (fun x m => ha x (List.mem_of_mem_drop m)) (fun x m => hl x (List.mem_of_mem_drop m)) (by rw [List.length_drop]; omega)]
    walk_at "zz"
    cases rdNums w with
    | none => walk_at "zz"; rfl
    | some caps =>
      walk_at "zz"
      have hin : inPD .non (.lst (((ws.take k).drop 1).map fun a => oD nmD (rdName a))) = some (.bl (allSome rdName ((ws.take k).drop 1)).isNone) :=
        none_in (F := rdName) (f := nmD) (p := nmP) (fun y => by
          show (toPs [dS y.1, .tup (iL y.2)]).map PyData.tuple = _
          show ((toP (dS y.1)).bind fun p => ((toP (.tup (iL y.2))).bind fun q => some [q]).map (p :: ·)).map PyData.tuple = _
          rw [show toP (.tup (iL y.2)) = some (.tuple (y.2.map PyData.int)) from encInt.tup.to y.2]
          rfl) (fun x m y e => by
          show (PyData.tuple [.str (SX.S y.1), .tuple (y.2.map PyData.int)]).canLay0 = true
          have hy : asc y.1 = true := rdName_asc (ha x (em x m)) e
          simp only [PyData.canLay0, PyData.canLayAll0]
          rw [strOk_S hy, lays_map (p := PyData.int) fun _ _ => rfl]
          rfl) fun _ => ⟨_, rfl⟩
      rw [hin]
      cases he : allSome rdName ((ws.take k).drop 1) with
      | none => walk_at "zz"; rfl
      | some ns =>
        have hns := allSome_len he
        have hns2 : ns.length ≤ 700 := by rw [hns, List.length_drop, List.length_take]; omega
        have e3 : (((ws.take k).drop 1).map fun a => oD nmD (rdName a)) = ns.map nmD := by
          have := congrArg (List.map (oD nmD)) (allSome_yes he)
          rw [List.map_map, List.map_map] at this
          exact this
        rw [e3]
        cases rdWardens (ws.drop k) with
        | none => walk_at "zz"; rfl
        | some es =>
          walk_at "zz"
          rewrite [dLc_map nmD (xs := ns) (F := fun n => dS n.1)]
          case hf => rfl
          case hi => walk_at "zz"
          case hl => omega
          case h =>
            intro e m
            exact ⟨_, rfl, rfl⟩
          walk_at "zz"
          rw [show (ns.map fun n => dS n.1) = (ns.map (·.1)).map dS from by rw [List.map_map]; rfl, rise_spec (f := dS) (lt := ltS) (fun x _ y _ => ltA_S x y) (by rw [List.length_map]; omega)]
          simp only [Option.bind_some]
          cases hc : riseL ltS (ns.map (·.1))
          · walk_at "zz"
            rfl
          · walk_at "zz"
            rfl
  · rw [if_neg hm, decide_eq_false hm]
    walk_at "zz"
    rfl
theorem star_first {w : L} {ws : Ws} {r : DGFs} {g : Gm} (h : ws.length ≤ 700) : apStar 2 1 r (some (.lst (dS w :: ws.map dS))) g = (r [dS w, .lst (ws.map dS)] g).map .nx := Zj.star_first (by rw [List.length_map]; omega)
theorem read_rec_spec {t : L} (ha : asc t = true) (hl : t.length ≤ 640) : g_read_record [dS t] = some (.v (oD recD (rdRec t))) := by
  unfold g_read_record t_read_record
  walk_at "zz"
  rw [part_S (by omega)]
  walk_at "zz"
  obtain ⟨l1, l2⟩ := cut_le 59 t
  obtain ⟨a1, a2⟩ := cut_asc 59 ha
  unfold rdRec
  generalize (cut 59 t).1 = b at l1 a1 ⊢
  have t59 : truD (dS [59]) = some true := by rw [tru_S (by simp)]; rfl
  have t0 : truD (dS []) = some false := by rw [tru_S (by simp)]; rfl
  cases ho : (cut 59 t).2 with
  | none =>
    rw [show (dS (if (none : Option L).isSome = true then [59] else [])) = dS [] from rfl, show ((none : Option L).getD []) = [] from rfl, t0]
    walk_at "zz"
    rfl
  | some r =>
    rw [ho] at l2 a2
    have l2 : r.length ≤ t.length := l2
    rw [show (dS (if (some r).isSome = true then [59] else [])) = dS [59] from rfl, show ((some r).getD []) = r from rfl, t59]
    cases r with
    | cons x r =>
      walk_at "zz"
      rw [tru_S (by omega)]
      walk_at "zz"
      rw [if_neg (by simp)]
      rfl
    | nil =>
      walk_at "zz"
      rw [t0]
      walk_at "zz"
      rw [sp_S (by decide) (by omega)]
      have hc := sp_count (c := 32) b.length b (Nat.le_refl _)
      have hA := sp_asc (c := 32) a1
      have hL := sp_le (c := 32) (b := 640) (a := b) (by omega)
      cases hs : sp 32 b with
      | nil => exact absurd hs (sp_ne b)
      | cons w ws =>
        rw [hs] at hc hA hL
        have hws : ws.length ≤ 640 := by simp at hc; omega
        have hA' : ∀ x ∈ ws, asc x = true := fun x m => hA x (List.mem_cons_of_mem _ m)
        have hL' : ∀ x ∈ ws, x.length ≤ 640 := fun x m => hL x (List.mem_cons_of_mem _ m)
        have hw := hA w List.mem_cons_self
        rw [List.map_cons]
        rw [star_first (by omega)]
        walk_at "zz"
        rw [rdBody_cons]
        rw [eq_S hw (show asc (codes "picture") = true from by decide)]
        by_cases h1 : w = codes "picture"
        · rw [if_pos h1, decide_eq_true h1]
          walk_at "zz"
          rw [read_pic_spec hA' hL' (by omega)]
          walk_at "zz"
        rw [if_neg h1, decide_eq_false h1]
        walk_at "zz"
        rw [eq_S hw (show asc (codes "put") = true from by decide)]
        by_cases h2 : w = codes "put"
        · rw [if_pos h2, decide_eq_true h2]
          walk_at "zz"
          rw [read_put_spec hA' hL' (by omega)]
          walk_at "zz"
        rw [if_neg h2, decide_eq_false h2]
        walk_at "zz"
        rw [eq_S hw (show asc (codes "erase") = true from by decide)]
        by_cases h3 : w = codes "erase"
        · rw [if_pos h3, decide_eq_true h3]
          walk_at "zz"
          match ws, hA', hL' with
          | [], _, _ => rfl
          | [x], hA', hL' =>
            rw [List.map_cons, List.map_nil]
            walk_at "zz"
            rw [show ixD (.lst [dS x]) (.int 0) = some (dS x) from rfl]
            walk_at "zz"
            rw [is_name_spec (by have := hL' x (by simp); omega)]
            show _ = some (Wd.v (oD recD (if isName x = true then some (.era x) else none)))
            cases hx : isName x
            · walk_at "zz"
              rfl
            · walk_at "zz"
              rfl
          | x :: y :: r, _, _ =>
            rw [List.map_cons, List.map_cons]
            have e1 : ((((x :: y :: r).length : Nat) : Int) == 1) = false := by
              cases z : ((((x :: y :: r).length : Nat) : Int) == 1) with
              | false => rfl
              | true => have := eq_of_beq z; simp at this; omega
            rw [e1]
            walk_at "zz"
            rfl
        rw [if_neg h3, decide_eq_false h3]
        walk_at "zz"
        rw [eq_S hw (show asc (codes "deal") = true from by decide)]
        by_cases h4 : w = codes "deal"
        · rw [if_pos h4, decide_eq_true h4]
          walk_at "zz"
          rw [read_deal_spec hA' hL' (by omega)]
          walk_at "zz"
        rw [if_neg h4, decide_eq_false h4]
        walk_at "zz"
        rw [eq_S hw (show asc (codes "cap") = true from by decide)]
        by_cases h5 : w = codes "cap"
        · rw [if_pos h5, decide_eq_true h5]
          walk_at "zz"
          rw [read_cap_spec hA' hL' (by omega)]
          walk_at "zz"
        rw [if_neg h5, decide_eq_false h5]
        walk_at "zz"
        rfl
end Rk
end

section
set_option Elab.async false
set_option linter.all false
set_option maxRecDepth 100000
set_option maxHeartbeats 4000000
/-! Lines as words; texts that are no pool's. -/
namespace Zd
open PySem L2 Zk Zc Zj
abbrev Ws := List (List Nat)
structure WsOk (ws : Ws) : Prop where
  ne : ws ≠ []
  ln : ws.length ≤ 30
  w : ∀ p ∈ ws, 32 ∉ p ∧ 10 ∉ p ∧ asc p = true ∧ p.length ≤ 90
def behW (w : List Nat) : Ws → Option (List Int)
  | [] => none
  | p :: ps => if p = w ∧ ps.all isNum = true then some (ps.map val) else none
theorem joinL_len {s : List Nat} {b : Nat} : ∀ {ws : Ws}, (∀ p ∈ ws, p.length ≤ b) → (TL.joinL s ws).length ≤ ws.length * (b + s.length)
  | [], _ => Nat.zero_le _
  | [p], h => by
    have := h p List.mem_cons_self
    show p.length ≤ _
    rw [List.length_cons, List.length_nil]
    omega
  | p :: q :: r, h => by
    have h1 := h p List.mem_cons_self
    have h2 := joinL_len (s := s) (ws := q :: r) fun x hx => h x (List.mem_cons_of_mem _ hx)
    show (p ++ (s ++ TL.joinL s (q :: r))).length ≤ _
    rw [List.length_append, List.length_append, List.length_cons, Nat.succ_mul]
    omega
theorem joinL_mem {s : List Nat} {c : Nat} : ∀ {ws : Ws}, c ∈ TL.joinL s ws → c ∈ s ∨ ∃ p ∈ ws, c ∈ p
  | [], h => by cases h
  | [p], h => Or.inr ⟨p, List.mem_cons_self, h⟩
  | p :: q :: r, h => by
    rcases List.mem_append.mp (show c ∈ p ++ (s ++ TL.joinL s (q :: r)) from h) with z | z
    · exact Or.inr ⟨p, List.mem_cons_self, z⟩
    · rcases List.mem_append.mp z with z | z
      · exact Or.inl z
      · rcases joinL_mem z with y | ⟨x, hx, y⟩
        · exact Or.inl y
        · exact Or.inr ⟨x, List.mem_cons_of_mem _ hx, y⟩
/-! ### rows and what is behind them -/
/-! ### which row is the first wrong one -/
def okPiece (n : Nat) (ws : Ws) : Prop := ∃ ns, behW wPiece ws = some ns ∧ Asc n ns
inductive Bad (R : List Ws) (rest : List Nat) : Nat → Prop where
  | first (h : ∀ ws, R.head? = some ws → ∀ cs, behW wSeats ws = some cs → cs = []) : Bad R rest 0
  | row {k : Nat} {ws0 ws : Ws} {R' : List Ws} {cs : List Int} (e : R = ws0 :: R') (h0 : behW wSeats ws0 = some cs) (hc : cs ≠ []) (hk : R'[k]? = some ws) (hb : ∀ (j : Nat) (v : Ws), j < k → R'[j]? = some v → okPiece cs.length v) (hw : ¬ okPiece cs.length ws) : Bad R rest (k + 1)
  | rest {ws0 : Ws} {R' : List Ws} {cs : List Int} (e : R = ws0 :: R') (h0 : behW wSeats ws0 = some cs) (hc : cs ≠ []) (hb : ∀ v ∈ R', okPiece cs.length v) (hr : rest ≠ []) : Bad R rest (R'.length + 1)
/-! ### the rows of a pool -/
structure RowsOk (caps : List Int) (hs : List (List Int)) : Prop where
  c1 : caps ≠ []
  c12 : caps.length ≤ 12
  c0 : ∀ x ∈ caps, 0 ≤ x ∧ x < 10 ^ 60
  hl : hs.length ≤ 26
  asc : ∀ h ∈ hs, Asc caps.length h
theorem num_ok {c : Int} (h0 : 0 ≤ c) (h : c < 10 ^ 60) : 32 ∉ num c ∧ 10 ∉ num c ∧ asc (num c) = true ∧ (num c).length ≤ 90 := ⟨num_free (Or.inl (by decide)), num_free (Or.inl (by decide)), num_asc c, by have := num_len h0 h; omega⟩
theorem ws_nums {w : List Nat} {ns : List Int} (hw : 32 ∉ w ∧ 10 ∉ w ∧ asc w = true ∧ w.length ≤ 90) (h0 : ∀ x ∈ ns, 0 ≤ x ∧ x < 10 ^ 60) (hl : ns.length ≤ 29) : WsOk (w :: ns.map num) := ⟨by simp, by simp; omega, fun p hp => by
  rcases List.mem_cons.mp hp with rfl | hp
  · exact hw
  · obtain ⟨x, hx, rfl⟩ := List.mem_map.mp hp
    exact num_ok (h0 x hx).1 (h0 x hx).2⟩
section
variable {caps : List Int} {hs : List (List Int)}
theorem asc_bd {n : Nat} {h : List Int} (hn : n ≤ 12) (ha : Asc n h) : (∀ x ∈ h, 0 ≤ x ∧ x < 10 ^ 60) ∧ h.length ≤ 12 := by
  have hl := ha.len
  refine ⟨fun x hx => ?_, by omega⟩
  have := ha.2 x hx
  exact ⟨this.1, Int.lt_trans this.2 (by have : (n : Int) ≤ 12 := by omega
                                         exact Int.lt_of_le_of_lt this (by decide))⟩
/-- the kind of a row: the first, or a piece's -/
inductive RowIs (n : Nat) : List Nat → List Int → Prop where
  | seats {ns : List Int} (h : ns ≠ []) (h2 : ns.length ≤ 12) (h0 : ∀ x ∈ ns, 0 ≤ x ∧ x < 10 ^ 60) : RowIs n wSeats ns
  | piece {ns : List Int} (h : Asc n ns) : RowIs n wPiece ns
theorem RowIs.bd {n : Nat} {w : List Nat} {ns : List Int} (hn : n ≤ 12) (h : RowIs n w ns) : (∀ x ∈ ns, 0 ≤ x ∧ x < 10 ^ 60) ∧ ns.length ≤ 12 := by
  cases h with
  | seats h h2 h0 => exact ⟨h0, h2⟩
  | piece h => exact asc_bd hn h
theorem RowIs.wd {n : Nat} {w : List Nat} {ns : List Int} (h : RowIs n w ns) : 32 ∉ w ∧ 10 ∉ w ∧ Zj.asc w = true ∧ w.length = 5 := by
  cases h with
  | seats h h2 h0 => decide
  | piece h => decide
theorem RowIs.ws {n : Nat} {w : List Nat} {ns : List Int} (hn : n ≤ 12) (h : RowIs n w ns) : WsOk (w :: ns.map num) := ws_nums ⟨h.wd.1, h.wd.2.1, h.wd.2.2.1, by have := h.wd.2.2.2; omega⟩ (h.bd hn).1 (by have := (h.bd hn).2; omega)
end
end Zd
end

section
set_option Elab.async false
set_option linter.all false
set_option maxRecDepth 100000
set_option maxHeartbeats 4000000
/-! The text of a record, and that it reads as the record. -/
namespace Rk
open PySem L2 Zk Zc Zj Zd
def joinN (ns : List Int) : L := TL.joinL [44] (ns.map num)
def wdT (e : Int × Int × Int) : L := num e.1 ++ 58 :: joinN [e.2.1, e.2.2]
def nmT (n : L × List Int) : L := n.1 ++ 61 :: joinN n.2
def wordsOf : Rec → Ws
  | .pic caps ns es => codes "picture" :: joinN caps :: (ns.map nmT ++ [47] :: es.map wdT)
  | .put n is es => codes "put" :: nmT (n, is) :: [47] :: es.map wdT
  | .era n => [codes "erase", n]
  | .deal es => codes "deal" :: [47] :: es.map wdT
  | .cap s c es => codes "cap" :: num s :: num c :: [47] :: es.map wdT
def bodyOf (r : Rec) : L := TL.joinL [32] (wordsOf r)
def textOf (r : Rec) : L := bodyOf r ++ [59]
structure NumOk (x : Int) : Prop where
  h0 : 0 ≤ x
  h1 : x < 10 ^ 60
structure EsOk (es : List (Int × Int × Int)) : Prop where
  n : ∀ e ∈ es, NumOk e.1 ∧ NumOk e.2.1 ∧ NumOk e.2.2 ∧ e.2.1 < e.2.2
  up : riseL ltI (0 :: es.map (·.1)) = true
structure NmOk (n : L × List Int) : Prop where
  nm : isName n.1 = true
  ok : ∀ x ∈ n.2, NumOk x
  up : riseL ltI (0 :: n.2) = true
def RecOk : Rec → Prop
  | .pic caps ns es => caps ≠ [] ∧ (∀ x ∈ caps, NumOk x) ∧ (∀ n ∈ ns, NmOk n) ∧ riseL ltS (ns.map (·.1)) = true ∧ EsOk es
  | .put n is es => NmOk (n, is) ∧ EsOk es
  | .era n => isName n = true
  | .deal es => EsOk es
  | .cap s c es => NumOk s ∧ NumOk c ∧ EsOk es
/-! ### signs -/
def okc (c : Nat) : Bool := nch c || decide (c = 44) || decide (c = 58) || decide (c = 61) || decide (c = 47)
theorem okc_no {c : Nat} (h : okc c = true) : c ≠ 32 ∧ c ≠ 59 ∧ c ≠ 10 ∧ c < 128 := by
  unfold okc nch at h
  simp only [Bool.or_eq_true, Bool.and_eq_true, decide_eq_true_eq] at h
  omega
theorem dig_okc {c : Nat} (h : dig c = true) : okc c = true := by
  unfold dig at h
  unfold okc nch
  simp only [Bool.or_eq_true, Bool.and_eq_true, decide_eq_true_eq] at h ⊢
  omega
theorem nch_okc {c : Nat} (h : nch c = true) : okc c = true := by
  unfold okc
  rw [h]
  rfl
def okW (w : L) : Prop := ∀ c ∈ w, okc c = true
theorem okW_app {a b : L} (ha : okW a) (hb : okW b) : okW (a ++ b) := fun c m => (List.mem_append.mp m).elim (ha c) (hb c)
theorem okW_cons {x : Nat} {b : L} (hx : okc x = true) (hb : okW b) : okW (x :: b) := fun c m => (List.mem_cons.mp m).elim (fun z => by rw [z]; exact hx) (hb c)
theorem okW_num (x : Int) : okW (num x) := fun c m => dig_okc (List.all_eq_true.mp (num_dig x) c m)
theorem okW_name {n : L} (h : isName n = true) : okW n := fun c m => by
  unfold isName at h
  rw [Bool.and_eq_true] at h
  exact nch_okc (List.all_eq_true.mp h.2 c m)
theorem okW_join {ws : Ws} {s : L} (hs : okW s) (h : ∀ w ∈ ws, okW w) : okW (TL.joinL s ws) := fun c m => by
  rcases Zd.joinL_mem m with z | ⟨p, hp, z⟩
  · exact hs c z
  · exact h p hp c z
theorem okW_joinN (ns : List Int) : okW (joinN ns) := okW_join (okW_cons rfl fun c m => by cases m) fun w m => by
  obtain ⟨x, _, rfl⟩ := List.mem_map.mp m
  exact okW_num x
theorem okW_wdT (e : Int × Int × Int) : okW (wdT e) := okW_app (okW_num _) (okW_cons rfl (okW_joinN _))
theorem okW_nmT {n : L × List Int} (h : NmOk n) : okW (nmT n) := okW_app (okW_name h.nm) (okW_cons rfl (okW_joinN _))
theorem okW_es (es : List (Int × Int × Int)) : ∀ w ∈ [47] :: es.map wdT, okW w := fun w m => by
  rcases List.mem_cons.mp m with z | z
  · rw [z]; exact okW_cons rfl fun c m => by cases m
  · obtain ⟨e, _, rfl⟩ := List.mem_map.mp z
    exact okW_wdT e
theorem okW_c {s : String} (h : (codes s).all okc = true) : okW (codes s) := fun c m => List.all_eq_true.mp h c m
theorem okW_words {r : Rec} (h : RecOk r) : ∀ w ∈ wordsOf r, okW w := fun w m => by
  cases r with
  | pic caps ns es =>
    rcases List.mem_cons.mp m with z | z
    · rw [z]; exact okW_c (by decide)
    rcases List.mem_cons.mp z with z | z
    · rw [z]; exact okW_joinN _
    rcases List.mem_append.mp z with z | z
    · obtain ⟨n, hn, rfl⟩ := List.mem_map.mp z
      exact okW_nmT (h.2.2.1 n hn)
    · exact okW_es es w z
  | put n is es =>
    rcases List.mem_cons.mp m with z | z
    · rw [z]; exact okW_c (by decide)
    rcases List.mem_cons.mp z with z | z
    · rw [z]; exact okW_nmT h.1
    · exact okW_es es w z
  | era n =>
    rcases List.mem_cons.mp m with z | z
    · rw [z]; exact okW_c (by decide)
    · rw [List.mem_singleton.mp z]; exact okW_name h
  | deal es =>
    rcases List.mem_cons.mp m with z | z
    · rw [z]; exact okW_c (by decide)
    · exact okW_es es w z
  | cap s c es =>
    rcases List.mem_cons.mp m with z | z
    · rw [z]; exact okW_c (by decide)
    rcases List.mem_cons.mp z with z | z
    · rw [z]; exact okW_num _
    rcases List.mem_cons.mp z with z | z
    · rw [z]; exact okW_num _
    · exact okW_es es w z
theorem words_ne (r : Rec) : wordsOf r ≠ [] := by cases r <;> exact List.cons_ne_nil _ _
theorem sp_body {r : Rec} (h : RecOk r) : sp 32 (bodyOf r) = wordsOf r := sp_join (words_ne r) fun w m z => (okc_no (okW_words h w m 32 z)).1 rfl
theorem body_no {r : Rec} (h : RecOk r) : 59 ∉ bodyOf r := fun z => by
  rcases Zd.joinL_mem z with z | ⟨p, hp, z⟩
  · exact absurd z (by decide)
  · exact (okc_no (okW_words h p hp 59 z)).2.1 rfl
theorem text_asc {r : Rec} (h : RecOk r) : asc (textOf r) = true := by
  refine asc_app (List.all_eq_true.mpr fun c m => ?_) (by decide)
  rw [decide_eq_true_eq]
  rcases Zd.joinL_mem m with z | ⟨p, hp, z⟩
  · rw [List.mem_singleton.mp z]; decide
  · exact (okc_no (okW_words h p hp c z)).2.2.2
theorem cut_text {r : Rec} (h : RecOk r) : cut 59 (textOf r) = (bodyOf r, some []) := cut_app [] (body_no h)
/-! ### the pieces read -/
theorem rdNums_join {ns : List Int} (h : ∀ x ∈ ns, NumOk x) (h0 : ns ≠ []) : rdNums (joinN ns) = some ns := by
  unfold rdNums joinN
  rw [sp_join (by simpa using h0) (fun p m => by obtain ⟨x, _, rfl⟩ := List.mem_map.mp m; exact num_free (Or.inl (by decide)))]
  rw [if_pos (List.all_eq_true.mpr fun p m => by obtain ⟨x, hx, rfl⟩ := List.mem_map.mp m; exact isNum_num (h x hx).h0), List.map_map]
  congr 1
  conv => rhs; rw [← List.map_id ns]
  exact List.map_congr_left fun x hx => val_num (h x hx).h0
theorem joinN_ne {ns : List Int} (h0 : ns ≠ []) : joinN ns ≠ [] := by
  cases ns with
  | nil => exact absurd rfl h0
  | cons x r =>
    unfold joinN
    rw [List.map_cons, joinL_cons]
    intro z
    exact num_ne x (List.append_eq_nil_iff.mp z).1
theorem rdName_T {n : L × List Int} (h : NmOk n) : rdName (nmT n) = some n := by
  unfold rdName nmT
  have h61 : 61 ∉ n.1 := fun z => by
    have := h.nm
    unfold isName at this
    rw [Bool.and_eq_true] at this
    exact absurd (List.all_eq_true.mp this.2 61 z) (by decide)
  rw [cut_app _ h61]
  show nmOf n.1 true (nmNums (joinN n.2)) = _
  have e : nmNums (joinN n.2) = some n.2 := by
    unfold nmNums
    by_cases h0 : n.2 = []
    · rw [h0]; rfl
    · rw [if_neg (joinN_ne h0), rdNums_join h.ok h0]
  rw [e]
  show (if isName n.1 = true ∧ true = true ∧ riseL ltI (0 :: n.2) = true then some (n.1, n.2) else none) = _
  rw [if_pos ⟨h.nm, rfl, h.up⟩]
theorem rdWarden_T {e : Int × Int × Int} (h : NumOk e.1 ∧ NumOk e.2.1 ∧ NumOk e.2.2 ∧ e.2.1 < e.2.2) : rdWarden (wdT e) = some e := by
  unfold rdWarden wdT
  rw [cut_app _ (num_free (Or.inr (by decide)))]
  show wdOf (num e.1) (rdNums (joinN [e.2.1, e.2.2])) = _
  rw [rdNums_join (fun x m => by rcases List.mem_cons.mp m with z | z; rw [z]; exact h.2.1; rw [List.mem_singleton.mp z]; exact h.2.2.1) (by simp)]
  show (if isNum (num e.1) = true ∧ e.2.1 < e.2.2 then some (val (num e.1), e.2.1, e.2.2) else none) = _
  rw [if_pos ⟨isNum_num h.1.h0, h.2.2.2⟩, val_num h.1.h0]
theorem allSome_map {α β : Type} {f : α → Option β} {g : β → α} : ∀ {ys : List β}, (∀ y ∈ ys, f (g y) = some y) → allSome f (ys.map g) = some ys
  | [], _ => rfl
  | y :: ys, h => by
    show (f (g y)).bind (fun z => (allSome f (ys.map g)).map (z :: ·)) = _
    rw [h y List.mem_cons_self, allSome_map fun z m => h z (List.mem_cons_of_mem _ m)]
    rfl
theorem rdWardens_T {es : List (Int × Int × Int)} (h : EsOk es) : rdWardens ([47] :: es.map wdT) = some es := by
  show (if ([47] : L) = [47] then rdWards (es.map wdT) else none) = _
  rw [if_pos rfl]
  unfold rdWards
  rw [allSome_map fun e m => rdWarden_T (h.n e m), Option.bind_some, if_pos h.up]
theorem nmT_ne (n : L × List Int) : nmT n ≠ [47] := fun z => by
  have : 61 ∈ nmT n := List.mem_append_right _ List.mem_cons_self
  rw [z] at this
  exact absurd this (by decide)
theorem joinN_47 (ns : List Int) : joinN ns ≠ [47] := fun z => by
  have h : 47 ∉ joinN ns := fun m => by
    rcases Zd.joinL_mem m with z | ⟨p, hp, z⟩
    · exact absurd z (by decide)
    · obtain ⟨x, _, rfl⟩ := List.mem_map.mp hp
      exact num_free (Or.inl (by decide)) z
  rw [z] at h
  exact h (by simp)
theorem idx_app {w : L} : ∀ {a : Ws} {b : Ws}, w ∉ a → (a ++ w :: b).idxOf w = a.length
  | [], b, _ => by simp
  | x :: a, b, h => by
    have h1 : ¬ x = w := fun z => h (by rw [z]; exact List.mem_cons_self)
    have e := idx_app (a := a) (b := b) fun z => h (List.mem_cons_of_mem _ z)
    rw [List.cons_append, List.idxOf_cons, e, List.length_cons]
    have h2 : (x == w) = false := by
      cases q : (x == w) with
      | false => rfl
      | true => exact absurd (eq_of_beq q) h1
    rw [h2]
    rfl
theorem rdPic_T {caps : List Int} {ns : List (L × List Int)} {es : List (Int × Int × Int)} (h : RecOk (.pic caps ns es)) : rdPic (joinN caps :: (ns.map nmT ++ [47] :: es.map wdT)) = some (.pic caps ns es) := by
  obtain ⟨c0, c1, n1, n2, e1⟩ := h
  have hm : [47] ∉ joinN caps :: ns.map nmT := fun z => by
    rcases List.mem_cons.mp z with z | z
    · exact joinN_47 _ z.symm
    · obtain ⟨n, _, z⟩ := List.mem_map.mp z
      exact nmT_ne n z
  have ei : (joinN caps :: (ns.map nmT ++ [47] :: es.map wdT)).idxOf [47] = (joinN caps :: ns.map nmT).length := idx_app (a := joinN caps :: ns.map nmT) (b := es.map wdT) hm
  unfold rdPic
  rw [if_pos (by simp), ei]
  have e2 : (joinN caps :: (ns.map nmT ++ [47] :: es.map wdT)).take (joinN caps :: ns.map nmT).length = joinN caps :: ns.map nmT := List.take_left (l₁ := joinN caps :: ns.map nmT)
  have e3 : (joinN caps :: (ns.map nmT ++ [47] :: es.map wdT)).drop (joinN caps :: ns.map nmT).length = [47] :: es.map wdT := List.drop_left (l₁ := joinN caps :: ns.map nmT)
  rw [e2, e3]
  show ((rdNums (joinN caps)).bind fun caps => (allSome rdName (ns.map nmT)).bind fun ns => (rdWardens ([47] :: es.map wdT)).bind fun es => if riseL ltS (ns.map (·.1)) = true then some (Rec.pic caps ns es) else none) = _
  rw [rdNums_join c1 c0, Option.bind_some, allSome_map fun n m => rdName_T (n1 n m), Option.bind_some, rdWardens_T e1, Option.bind_some, if_pos n2]
theorem rd_text {r : Rec} (h : RecOk r) : rdRec (textOf r) = some r := by
  unfold rdRec
  rw [cut_text h, if_pos rfl, sp_body h]
  cases r with
  | pic caps ns es =>
    show rdBody (codes "picture" :: _) = _
    rw [rdBody_cons, if_pos rfl]
    exact rdPic_T h
  | put n is es =>
    show rdBody (codes "put" :: nmT (n, is) :: ([47] :: es.map wdT)) = _
    rw [rdBody_cons, if_neg (by decide), if_pos rfl]
    show ((rdName (nmT (n, is))).bind fun n => (rdWardens ([47] :: es.map wdT)).map fun es => Rec.put n.1 n.2 es) = _
    rw [rdName_T h.1, rdWardens_T h.2]
    rfl
  | era n =>
    show rdBody (codes "erase" :: [n]) = _
    rw [rdBody_cons, if_neg (by decide), if_neg (by decide), if_pos rfl]
    exact if_pos h
  | deal es =>
    show rdBody (codes "deal" :: ([47] :: es.map wdT)) = _
    rw [rdBody_cons, if_neg (by decide), if_neg (by decide), if_neg (by decide), if_pos rfl]
    show (rdWardens ([47] :: es.map wdT)).map Rec.deal = _
    rw [rdWardens_T h]
    rfl
  | cap s c es =>
    show rdBody (codes "cap" :: num s :: num c :: ([47] :: es.map wdT)) = _
    rw [rdBody_cons, if_neg (by decide), if_neg (by decide), if_neg (by decide), if_neg (by decide), if_pos rfl]
    show ((rdWardens ([47] :: es.map wdT)).bind fun es => if isNum (num s) = true ∧ isNum (num c) = true then some (Rec.cap (val (num s)) (val (num c)) es) else none) = _
    rw [rdWardens_T h.2.2, Option.bind_some, if_pos ⟨isNum_num h.1.h0, isNum_num h.2.1.h0⟩, val_num h.1.h0, val_num h.2.1.h0]
end Rk
end

section
set_option Elab.async false
set_option linter.all false
set_option maxRecDepth 100000
set_option maxHeartbeats 4000000
/-! What the laws on texts share: signs, names, alike. -/
namespace Rk
open PySem L2 Zk Zc Zj Zd
def t_law_sign : SF :=
 (sSeq (sAsg (dC (.str " !\"#$&'()*+,-./0123456789:;<=>?@ABCDEFGHIJKLMNOPQRSTUVWXYZ[\\]^_`")) (dName 1))
 (sSeq (sAsg (d2 addD (dVar 1) (dC (.str "abcdefghijklmnopqrstuvwxyz{|}~"))) (dName 1))
 (sRet (d2 ixD (dVar 1) (d2 modD (dN intD (aCons (dVar 0) aNil)) (dC (.int 94)))))))
def g_law_sign : PF := runG 1 (t_law_sign)
def t_law_names : SF :=
 (sSeq (sAsg (dCall 2 (Zc.g_law_draws) (aCons (dVar 0) (aCons (d2 addD (d2 addD (d2 mulD (dN mkLst (aCons (dC (.int 36)) aNil)) (dC (.int 12))) (d2 mulD (dN mkLst (aCons (dC (.int 12)) aNil)) (dC (.int 4)))) (d2 mulD (dN mkLst (aCons (dC (.int 36)) aNil)) (dC (.int 4)))) aNil))) (dName 1))
 (sSeq (sAsg (dC (.str "abcdefghijklmnopqrstuvwxyz0123456789")) (dName 2))
 (sSeq (sAsg (Zj.dM1 Zj.joinD (dC (.str "")) (dLc (dRng1 (aCons (dC (.int 12)) aNil)) (dName 5) dYes (d2 ixD (dVar 2) (d2 ixD (dVar 1) (dVar 5))) [5])) (dName 3))
 (sSeq (sAsgO (dN mkLst aNil) 4)
 (sSeq (sFor (dRng1 (aCons (dC (.int 4)) aNil)) (dName 5)
 (sSeq (sAsg (d2 ixD (dVar 1) (d2 addD (dC (.int 12)) (dVar 5))) (dName 6))
 (sApp 4 (d2 addD (Zj.dSlS (dVar 3) oNone (oSome (dVar 6))) (d2 ixD (dVar 2) (d2 ixD (dVar 1) (d2 addD (dC (.int 16)) (dVar 5))))))))
 (sRetV 4))))))
def g_law_names : PF := runG 6 (t_law_names)

def tA0 : SF :=
 (sSeq (sIf (tDt truD (dN isiD (aCons (dVar 1) (aCons (dC (.ty "str")) aNil))))
 (sRet (dAndV (dN isiD (aCons (dVar 0) (aCons (dC (.ty "str")) aNil))) (d2 eqD (dVar 0) (dVar 1))))
 sNext)
 (sSeq (sIf (dNotT (tDt truD (dN isiD (aCons (dVar 1) (aCons (dC (.ty "tuple")) aNil)))))
 (sRet (dAndV (dCall 1 (Zc.g_law_is_integer) (aCons (dVar 0) aNil)) (d2 eqD (dVar 0) (dVar 1))))
 sNext)
 (sSeq (sIf (dOrT (dNotT (tDt truD (dN isiD (aCons (dVar 0) (aCons (dC (.ty "tuple")) aNil))))) (tDt blD (d2 neD (dN lenD (aCons (dVar 0) aNil)) (dN lenD (aCons (dVar 1) aNil)))))
 (sRet (dC (.bl false)))
 sNext)
 (sSeq (sFor (dRng1 (aCons (dN lenD (aCons (dVar 1) aNil)) aNil)) (dName 2)
 (sIf (dNotT (tDt truD Zq9.dNo))
 (sRet (dC (.bl false)))
 sNext))
 (sRet (dC (.bl true)))))))

def tA (rec : PF) : SF :=
 (sSeq (sIf (tDt truD (dN isiD (aCons (dVar 1) (aCons (dC (.ty "str")) aNil))))
 (sRet (dAndV (dN isiD (aCons (dVar 0) (aCons (dC (.ty "str")) aNil))) (d2 eqD (dVar 0) (dVar 1))))
 sNext)
 (sSeq (sIf (dNotT (tDt truD (dN isiD (aCons (dVar 1) (aCons (dC (.ty "tuple")) aNil)))))
 (sRet (dAndV (dCall 1 (Zc.g_law_is_integer) (aCons (dVar 0) aNil)) (d2 eqD (dVar 0) (dVar 1))))
 sNext)
 (sSeq (sIf (dOrT (dNotT (tDt truD (dN isiD (aCons (dVar 0) (aCons (dC (.ty "tuple")) aNil))))) (tDt blD (d2 neD (dN lenD (aCons (dVar 0) aNil)) (dN lenD (aCons (dVar 1) aNil)))))
 (sRet (dC (.bl false)))
 sNext)
 (sSeq (sFor (dRng1 (aCons (dN lenD (aCons (dVar 1) aNil)) aNil)) (dName 2)
 (sIf (dNotT (tDt truD (dCall 2 (rec) (aCons (d2 ixD (dVar 0) (dVar 2)) (aCons (d2 ixD (dVar 1) (dVar 2)) aNil)))))
 (sRet (dC (.bl false)))
 sNext))
 (sRet (dC (.bl true)))))))

theorem isi_st (a : L) : isiD [dS a, .ty "str"] = some (.bl true) := rfl
theorem isi_stt (a : L) : isiD [dS a, .ty "tuple"] = some (.bl false) := rfl
theorem isi_is (a : Int) : isiD [.int a, .ty "str"] = some (.bl false) := rfl
theorem isi_itt (a : Int) : isiD [.int a, .ty "tuple"] = some (.bl false) := rfl
theorem isi_ts (a : List D) : isiD [.tup a, .ty "str"] = some (.bl false) := rfl
theorem isi_tt (a : List D) : isiD [.tup a, .ty "tuple"] = some (.bl true) := rfl
theorem isi_call {k : Int} : Zc.g_law_is_integer [.int k] = some (.v (.bl true)) := rfl
def signsL : L := codes " !\"#$&'()*+,-./0123456789:;<=>?@ABCDEFGHIJKLMNOPQRSTUVWXYZ[\\]^_`" ++ codes "abcdefghijklmnopqrstuvwxyz{|}~"
theorem signs_ok : ∀ k < 94, signsL.getD k 0 < 128 ∧ signsL.getD k 0 ≠ 10 := by decide +kernel
local macro_rules | `(tactic| walk_at "zs") => `(tactic| simp only [beq_self_eq_true, Bool.or_false, Bool.false_or, Bool.true_or, Bool.or_true, Bool.and_false, Bool.false_and, Bool.true_and, Bool.and_true, Zc.isi_ii, Zc.isi_ib, Zc.isi_tt, Zc.isi_ll, Zc.rowsT_len, Zc.rowsL_len, Zc.is_integer_call, Zc.ix_p0, Zc.ix_p1, dgTup2_a, dgTup3_a, Bool.not_true, Bool.not_false, mul_lz, List.flatten_cons, List.flatten_nil, Int.reduceToNat, add_ll, pow10_12, pow10_18, pow10_39, pow10_41, pow10_59, pow10_60, mkLst_some, mkTup_some, List.length_cons, List.length_nil, Nat.zero_le, Nat.reduceAdd, Nat.reduceLeDiff, call1, callO1, call2, callO2, call3, callO3, call4, callO4, call5, callO5, call6, callO6, ap1_some, ap2_some, apN_some, apC_some, d1_a, d2_a, dN_a, aNil_a, aCons_a, dC_a, dVar_z, dVar_s, tDt_a, apAnd_t, apAnd_f, apOr_t, apOr_f, dAndT_a, dOrT_a, apNot_some, dNotT_a, apAndV_t, apAndV_f, dAndV_a, apOrV_t, apOrV_f, dOrV_a, apIf_t, apIf_f, dIf_a, apCh_t, apCh_f, apChain_some, dChain_a, apSeq_nx, apSeq_rt, apSeq_ct, apSeq_bk, sSeq_a, apIfS_t, apIfS_f, sIf_a, sNext_a, sCont_a, sBreak_a, apRet_some, sRet_a, apRetO_some, sRetO_a, sRetN_a, getO_z, getO_s, apRetV_some, sRetV_a, ltB_z, ltB_s, okSlot_s, apAsg_some, sAsg_a, dName_ok, apG_some, dgCons_a, dgNil_a, apAsgO_some, sAsgO_a, sApp_a, sSetI_a, apFor_some, sFor_a, dItems_a, dRng1_a, dRng2_a, apEn_some, apEn_tup, dEnum_a, sFrz_a, frzs_nil, frzs_cons, frzI_o, frzI_v, frzI_n, frzI_s, frz1_s, frzAll_nil, frzAll_o, frzAll_v, frzAll_n, peekT_a, apPk_int, apPk_bl, apPk_str, apPk_non, peekF_a, dCall_a, toO_o, dCallO_a, dMake_a, Wd_v, Wd_o, dSl_a, apSl_some, oNone_a, oSome_a, apO_some, add_ii, sub_ii, lt_ii, le_ii, gt_ii, ge_ii, eq_ii, ne_ii, neg_i, not_b, bl_b, tru_b, tru_i, tru_l, tru_t, tru_n, len_l, len_t, len_scr, abs_i, int_i, list_l, list_t, tuple_l, tuple_t, min_ii, max_ii, rev_l, items_l, items_t, iL_len, run_a, outW_rt, outW_nx, List.map_cons, List.map_nil, List.replicate, List.append_nil, List.cons_append, List.nil_append, List.set_cons_zero, List.set_cons_succ, Option.map_some])
local macro_rules | `(tactic| walk_at "zd") => `(tactic| first | ((with_reducible show okSlot _ _ = true); simp only [okSlot_s, ltB_z, ltB_s]; done) | omega | assumption | decide | (simp only [List.length_map, List.length_append, List.length_cons, List.length_nil, List.length_range, List.length_set, List.length_reverse, iL_len, Zc.rowsT_len, Zc.rowsL_len] at *; omega))
local macro_rules | `(tactic| walk_at "zz") => `(tactic| simp (disch := walk_at "zd") only [dgTup2_a, dgTup3_a, Bool.not_true, Bool.not_false, mul_lz, List.flatten_cons, List.flatten_nil, Int.reduceToNat, add_ll, pow10_12, pow10_18, pow10_39, pow10_41, pow10_59, pow10_60, mkLst_some, mkTup_some, List.length_cons, List.length_nil, Nat.zero_le, Nat.reduceAdd, Nat.reduceLeDiff, call1, callO1, call2, callO2, call3, callO3, call4, callO4, call5, callO5, call6, callO6, ap1_some, ap2_some, apN_some, apC_some, d1_a, d2_a, dN_a, aNil_a, aCons_a, dC_a, dVar_z, dVar_s, tDt_a, apAnd_t, apAnd_f, apOr_t, apOr_f, dAndT_a, dOrT_a, apNot_some, dNotT_a, apAndV_t, apAndV_f, dAndV_a, apOrV_t, apOrV_f, dOrV_a, apIf_t, apIf_f, dIf_a, apCh_t, apCh_f, apChain_some, dChain_a, apSeq_nx, apSeq_rt, apSeq_ct, apSeq_bk, sSeq_a, apIfS_t, apIfS_f, sIf_a, sNext_a, sCont_a, sBreak_a, apRet_some, sRet_a, apRetO_some, sRetO_a, sRetN_a, getO_z, getO_s, apRetV_some, sRetV_a, ltB_z, ltB_s, okSlot_s, apAsg_some, sAsg_a, dName_ok, apG_some, dgCons_a, dgNil_a, apAsgO_some, sAsgO_a, sApp_a, sSetI_a, apFor_some, sFor_a, dItems_a, dRng1_a, dRng2_a, apEn_some, apEn_tup, dEnum_a, sFrz_a, frzs_nil, frzs_cons, frzI_o, frzI_v, frzI_n, frzI_s, frz1_s, frzAll_nil, frzAll_o, frzAll_v, frzAll_n, peekT_a, apPk_int, apPk_bl, apPk_str, apPk_non, peekF_a, dCall_a, toO_o, dCallO_a, dMake_a, Wd_v, Wd_o, dSl_a, apSl_some, oNone_a, oSome_a, apO_some, add_ii, sub_ii, lt_ii, le_ii, gt_ii, ge_ii, eq_ii, ne_ii, neg_i, not_b, bl_b, tru_b, tru_i, tru_l, tru_t, tru_n, len_l, len_t, len_scr, abs_i, int_i, list_l, list_t, tuple_l, tuple_t, min_ii, max_ii, rev_l, items_l, items_t, iL_len, run_a, outW_rt, outW_nx, List.map_cons, List.map_nil, List.replicate, List.append_nil, List.cons_append, List.nil_append, List.set_cons_zero, List.set_cons_succ, Option.map_some, Int.reduceAdd, Int.reduceMul, Int.reduceSub, Int.reduceNeg, beq_self_eq_true, Bool.or_false, Bool.false_or, Bool.true_or, Bool.or_true, Bool.and_false, Bool.false_and, Bool.true_and, Bool.and_true, Zc.isi_ii, Zc.isi_ib, Zc.isi_tt, Zc.isi_ll, Zc.rowsT_len, Zc.rowsL_len, Zc.is_integer_call, Zc.ix_p0, Zc.ix_p1, apR1_any, Int.toNat_natCast, apR2_some, mod_ii, fdiv_ii, mul_small, apApp_some, ix_at, ix_atT, ix_atI, ix_atIT, ix_atR, ix_atRT, List.length_map, List.length_append, List.length_range, List.length_set, Option.map_none, Option.map_map, decide_true, decide_false, peekO_a, apPkO_i, frz_wo, frz_wv, frz_kk, wipeG_nil, wipeG_cons, orB_s, orB_t, orB_f, andB_s, andB_t, andB_f, orV_s, orV_t, orV_f, andV_s, andV_t, andV_f, apOr_b, apAnd_b, apOrV_b, apAndV_b, apCh_b, Zc.cut_from, Zc.cut_to, in_l, in_t, in_pr, eq_op_op, eq_op_pr, eq_pr_op, eq_pr_pr, ne_op_op, ne_op_pr, ne_pr_op, ne_pr_pr, isnt_op, is_op, pr_0, pr_1, st_0, st_1, inP_pr, ninP_pr, nin_l, isi_prt, len_pr, op_some, prD_eq, ix_lit2, ix_lit3, ix_lit4, ix_lit5, ix_lit6, ix_lit7, ix_lit8, ix_lit9, ix_lit10, ix_lit11, ix_lit12, ix_lit13, ix_lit14, ix_lit15, setI_i, setI_p, setI_o, setI_n, snoc_i, snoc_r, snoc_p, snoc_n, snoc_o, snoc_pp, snoc_s, eq_ol, ne_ol, eq_pl, ne_pl, eq_sl, ne_sl, eq_il, ne_il, eq_rl, ne_rl, eq_il1, isi_bb, eq_bb, ne_bb, eq_self, lit, dM1_a, apM1_S, dM0_a, apM0_S, Bool.not_true, Bool.not_false, dSlS_w, apSl_s, Int.reduceBEq, is_tn, is_nn, isi_st, isi_stt, isi_is, isi_itt, isi_ts, isi_tt, isi_call])
local macro_rules | `(tactic| walk_at "zf") => `(tactic| first | (walk_at "zz"; done) | (walk_at "zz"; rfl) | rfl)
local macro_rules | `(tactic| walk_at "lc") => `(tactic| ((case hf => rfl); (case hi => first | (walk_at "zz"; done) | (walk_at "zz"; rfl) | rfl); (case hl => walk_at "zd"); (case h => (intro a ha; refine ⟨_, dName_ok rfl, ?_, fun hT => ?_⟩ <;> walk_at "zz" <;> rfl))))
local macro_rules | `(tactic| walk_at "lm") => `(tactic| ((case hf => rfl); (case hi => first | (walk_at "zz"; done) | (walk_at "zz"; rfl) | rfl); (case hl => walk_at "zd"); (case h => (intro a ha; refine ⟨_, dName_ok rfl, ?_⟩; walk_at "zz"; rfl))))
theorem sign_spec {p : Int} (h0 : 0 ≤ p) (h : p < 94) : ∃ c, g_law_sign [.int p] = some (.v (dS [c])) ∧ c < 128 ∧ c ≠ 10 := by
  refine ⟨signsL.getD p.toNat 0, ?_, signs_ok p.toNat (by omega)⟩
  unfold g_law_sign t_law_sign
  walk_at "zz"
  rw [add_S (by decide)]
  walk_at "zz"
  rw [show p % 94 = p from Int.emod_eq_of_lt h0 h, ixS (by decide) h0 (by show p < ((94 : Nat) : Int); omega)]
  rfl
/-- a text that is joined of signs, one for each number of a range -/
theorem join_rng {it : DIF} {te : DF} {g : Gm} {n m : Nat} (hn : n ≤ 1000) (P : Nat → Prop) (hf : free g [m] = true) (hi : it g = some (rngL 0 n))
    (h : ∀ i, i < n → ∃ g1 c, dName m (.int (0 + (i : Int))) (wipeG g [m]) = some g1 ∧ te g1 = some (dS [c]) ∧ P c) :
    ∃ l : L, dLc it (dName m) dYes te [m] g = some (.lst (l.map fun c => dS [c])) ∧ l.length = n ∧ ∀ c ∈ l, P c := by
  classical
  have h' : ∀ i, ∃ c, i < n → ∃ g1, dName m (.int (0 + (i : Int))) (wipeG g [m]) = some g1 ∧ te g1 = some (dS [c]) ∧ P c := fun i => by
    by_cases hin : i < n
    · obtain ⟨g1, c, e1, e2, e3⟩ := h i hin
      exact ⟨c, fun _ => ⟨g1, e1, e2, e3⟩⟩
    · exact ⟨0, fun z => absurd z hin⟩
  obtain ⟨F, hF⟩ := Classical.axiomOfChoice h'
  refine ⟨(List.range n).map F, ?_, by rw [List.length_map, List.length_range], fun c hc => ?_⟩
  · rw [dLc_map (fun i : Nat => D.int (0 + (i : Int))) (xs := List.range n) (F := fun i => dS [F i]) hf (hi.trans rfl) (by rw [List.length_range]; omega) fun i hm => by
      obtain ⟨g1, e1, e2, _⟩ := hF i (List.mem_range.mp hm)
      exact ⟨g1, e1, e2⟩]
    rw [List.map_map]
    rfl
  · obtain ⟨i, hm, rfl⟩ := List.mem_map.mp hc
    obtain ⟨g1, _, _, e3⟩ := hF i (List.mem_range.mp hm)
    exact e3
/-! ### alike -/
def atom (d : D) : Prop := (∃ a, d = dS a ∧ asc a = true) ∨ ∃ i, d = .int i
def plain : Nat → D → Prop
  | 0, d => atom d
  | n + 1, d => atom d ∨ ∃ ds, d = .tup ds ∧ ds.length ≤ 1000 ∧ ∀ x ∈ ds, plain n x
theorem alike_atom0 {d : D} (h : atom d) : runG 1 tA0 [d, d] = some (.v (.bl true)) := by
  unfold tA0
  rcases h with ⟨a, rfl, ha⟩ | ⟨i, rfl⟩
  · walk_at "zz"
    rw [eq_S ha ha, decide_eq_true rfl]
    walk_at "zz"
  · walk_at "zz"
theorem alike_rec {rec : PF} {n : Nat} {d : D} (hr : ∀ x, plain n x → rec [x, x] = some (.v (.bl true))) (h : plain (n + 1) d) : runG 1 (tA rec) [d, d] = some (.v (.bl true)) := by
  unfold tA
  rcases h with (⟨a, rfl, ha⟩ | ⟨i, rfl⟩) | ⟨ds, rfl, hl, hd⟩
  · walk_at "zz"
    rw [eq_S ha ha, decide_eq_true rfl]
    walk_at "zz"
  · walk_at "zz"
  · walk_at "zz"
    refine rng_then (C := fun o => outW o = some (.v (.bl true))) (fun i g => ∃ k : Option Wd, g = [some (.v (.tup ds)), some (.v (.tup ds)), k]) ?_ ?_ ?_ ?_
    · exact ⟨none, rfl⟩
    · rintro i g ⟨k, rfl⟩
      rfl
    · rintro i g hi ⟨k, rfl⟩
      refine ⟨[some (.v (.tup ds)), some (.v (.tup ds)), some (.v (.int (i : Int)))], .inl ?_, _, rfl⟩
      show sIf _ _ _ [some (.v (.tup ds)), some (.v (.tup ds)), some (.v (.int (i : Int)))] = _
      have e1 : ixD (.tup ds) (.int (i : Int)) = some ds[i] := ix_t (List.getElem?_eq_getElem hi)
      walk_at "zz"
      rw [e1]
      walk_at "zz"
      rw [hr _ (hd _ (List.getElem_mem hi))]
      walk_at "zz"
    · rintro g ⟨k, rfl⟩
      walk_at "zz"
theorem atom_plain {d : D} (h : atom d) : ∀ n, plain n d
  | 0 => h
  | n + 1 => .inl h
theorem plain_tup {n : Nat} {ds : List D} (hl : ds.length ≤ 1000) (h : ∀ x ∈ ds, plain n x) : plain (n + 1) (.tup ds) := .inr ⟨ds, rfl, hl, h⟩
theorem atom_i (i : Int) : atom (.int i) := .inr ⟨i, rfl⟩
theorem atom_S {a : L} (h : asc a = true) : atom (dS a) := .inl ⟨a, rfl, h⟩
theorem plain_ints {n : Nat} {ns : List Int} (hl : ns.length ≤ 1000) : plain (n + 1) (.tup (iL ns)) := plain_tup (by rw [iL_len]; exact hl) fun x m => by
  obtain ⟨i, _, rfl⟩ := List.mem_map.mp m
  exact atom_plain (atom_i i) n
theorem okW_asc {a : L} (h : okW a) : asc a = true := List.all_eq_true.mpr fun c m => decide_eq_true (okc_no (h c m)).2.2.2
structure RecSm (r : Rec) : Prop where
  ok : RecOk r
  len : (textOf r).length ≤ 640
theorem wsD_plain {n : Nat} {es : List (Int × Int × Int)} (hl : es.length ≤ 1000) : plain (n + 2) (wsD es) := plain_tup (by rw [List.length_map]; exact hl) fun x m => by
  obtain ⟨e, _, rfl⟩ := List.mem_map.mp m
  refine plain_tup (by simp) fun y m => ?_
  simp only [List.mem_cons, List.not_mem_nil, or_false] at m
  rcases m with rfl | rfl | rfl <;> exact atom_plain (atom_i _) n
theorem joinL_ge {s : L} (hs : 1 ≤ s.length) : ∀ ws : Ws, ws.length ≤ (TL.joinL s ws).length + 1
  | [] => Nat.zero_le _
  | [p] => by show 1 ≤ p.length + 1; omega
  | p :: q :: r => by
    have h := joinL_ge hs (q :: r)
    show (q :: r).length + 1 ≤ (p ++ (s ++ TL.joinL s (q :: r))).length + 1
    rw [List.length_append, List.length_append]
    omega
theorem joinL_part {s w : L} : ∀ {ws : Ws}, w ∈ ws → w.length ≤ (TL.joinL s ws).length
  | [p], h => by rw [List.mem_singleton.mp h]; exact Nat.le_refl _
  | p :: q :: r, h => by
    show w.length ≤ (p ++ (s ++ TL.joinL s (q :: r))).length
    rw [List.length_append, List.length_append]
    rcases List.mem_cons.mp h with z | z
    · rw [z]; omega
    · have := joinL_part (s := s) z
      omega
theorem rec_plain {r : Rec} (h : RecSm r) : plain 4 (recD r) := by
  have hw : (wordsOf r).length ≤ 641 := by
    have h1 := joinL_ge (s := [32]) (by simp) (wordsOf r)
    have h2 := h.len
    unfold textOf bodyOf at h2
    rw [List.length_append] at h2
    simp at h2
    omega
  have hp : ∀ w ∈ wordsOf r, w.length ≤ 640 := fun w m => by
    have h1 := joinL_part (s := [32]) m
    have h2 := h.len
    unfold textOf bodyOf at h2
    rw [List.length_append] at h2
    omega
  have hj : ∀ ns : List Int, (joinN ns).length ≤ 640 → ns.length ≤ 1000 := fun ns hn => by
    have := joinL_ge (s := [44]) (by simp) (ns.map num)
    unfold joinN at hn
    rw [List.length_map] at this
    omega
  cases r with
  | pic caps ns es =>
    have h1 : ns.length + es.length ≤ 700 := by
      simp [wordsOf] at hw
      omega
    refine plain_tup (by simp) fun x m => ?_
    simp only [List.mem_cons, List.not_mem_nil, or_false] at m
    rcases m with rfl | rfl | rfl | rfl
    · exact atom_plain (atom_S (by decide)) 3
    · exact plain_ints (hj _ (hp _ (by simp [wordsOf])))
    · refine plain_tup (by rw [List.length_map]; omega) fun x m => ?_
      obtain ⟨n, hn, rfl⟩ := List.mem_map.mp m
      refine plain_tup (by simp) fun y m => ?_
      have hl := hp (nmT n) (by simp [wordsOf]; exact .inr (.inr (.inl ⟨_, _, hn, rfl⟩)))
      unfold nmT at hl
      rw [List.length_append, List.length_cons] at hl
      simp only [List.mem_cons, List.not_mem_nil, or_false] at m
      rcases m with rfl | rfl
      · exact atom_plain (atom_S (okW_asc (okW_name (h.ok.2.2.1 n hn).nm))) 1
      · exact plain_ints (hj _ (by omega))
    · exact wsD_plain (by omega)
  | put n is es =>
    have h1 : es.length ≤ 700 := by
      simp [wordsOf] at hw
      omega
    have hl := hp (nmT (n, is)) (by simp [wordsOf])
    unfold nmT at hl
    rw [List.length_append, List.length_cons] at hl
    have hl : n.length + ((joinN is).length + 1) ≤ 640 := hl
    refine plain_tup (by simp) fun x m => ?_
    simp only [List.mem_cons, List.not_mem_nil, or_false] at m
    rcases m with rfl | rfl | rfl | rfl
    · exact atom_plain (atom_S (by decide)) 3
    · exact atom_plain (atom_S (okW_asc (okW_name h.ok.1.nm))) 3
    · exact plain_ints (hj _ (by omega))
    · exact wsD_plain (by omega)
  | era n =>
    refine plain_tup (by simp) fun x m => ?_
    simp only [List.mem_cons, List.not_mem_nil, or_false] at m
    rcases m with rfl | rfl
    · exact atom_plain (atom_S (by decide)) 3
    · exact atom_plain (atom_S (okW_asc (okW_name h.ok))) 3
  | deal es =>
    have h1 : es.length ≤ 700 := by
      simp [wordsOf] at hw
      omega
    refine plain_tup (by simp) fun x m => ?_
    simp only [List.mem_cons, List.not_mem_nil, or_false] at m
    rcases m with rfl | rfl
    · exact atom_plain (atom_S (by decide)) 3
    · exact wsD_plain (by omega)
  | cap s c es =>
    have h1 : es.length ≤ 700 := by
      simp [wordsOf] at hw
      omega
    refine plain_tup (by simp) fun x m => ?_
    simp only [List.mem_cons, List.not_mem_nil, or_false] at m
    rcases m with rfl | rfl | rfl | rfl
    · exact atom_plain (atom_S (by decide)) 3
    · exact atom_plain (atom_i _) 3
    · exact atom_plain (atom_i _) 3
    · exact wsD_plain (by omega)
/-! ### names -/
def ltrs : L := codes "abcdefghijklmnopqrstuvwxyz0123456789"
theorem ltrs_ok : ∀ k < 36, nch (ltrs.getD k 0) = true := by decide +kernel
theorem nsz : ([.int 36, .int 36, .int 36, .int 36, .int 36, .int 36, .int 36, .int 36, .int 36, .int 36, .int 36, .int 36, .int 12, .int 12, .int 12, .int 12, .int 36, .int 36, .int 36, .int 36] : List D) = iL [36, 36, 36, 36, 36, 36, 36, 36, 36, 36, 36, 36, 12, 12, 12, 12, 36, 36, 36, 36] := rfl
theorem names_spec (c : Int) : ∃ W : Ws, g_law_names [.int c] = some (.o (.lst (W.map dS))) ∧ W.length = 4 ∧ ∀ w ∈ W, isName w = true := by
  unfold g_law_names t_law_names
  walk_at "zz"
  obtain ⟨w, e, ds, rfl, hb⟩ := Zc.draws_spec c [36, 36, 36, 36, 36, 36, 36, 36, 36, 36, 36, 36, 12, 12, 12, 12, 36, 36, 36, 36] (by intro s hs; simp only [List.mem_cons, List.not_mem_nil, or_false] at hs; omega) (show (20 : Nat) ≤ 1000 by decide)
  rw [nsz, e]
  have hdl : ds.length = 20 := hb.len
  have b0 : ∀ i : Nat, i < 12 → 0 ≤ at_ ds (0 + (i : Int)) ∧ at_ ds (0 + (i : Int)) < 36 := fun i hi => hb.at (k := 0 + (i : Int)) (s := 36) (by omega) (by
    rw [show (0 + (i : Int)).toNat = i by omega]
    match i, hi with
    | 0, _ => rfl
    | 1, _ => rfl
    | 2, _ => rfl
    | 3, _ => rfl
    | 4, _ => rfl
    | 5, _ => rfl
    | 6, _ => rfl
    | 7, _ => rfl
    | 8, _ => rfl
    | 9, _ => rfl
    | 10, _ => rfl
    | 11, _ => rfl)
  have b1 : ∀ i : Nat, i < 4 → 0 ≤ at_ ds (12 + (i : Int)) ∧ at_ ds (12 + (i : Int)) < 12 := fun i hi => hb.at (k := 12 + (i : Int)) (s := 12) (by omega) (by
    rw [show (12 + (i : Int)).toNat = 12 + i by omega]
    match i, hi with
    | 0, _ => rfl
    | 1, _ => rfl
    | 2, _ => rfl
    | 3, _ => rfl)
  have b2 : ∀ i : Nat, i < 4 → 0 ≤ at_ ds (16 + (i : Int)) ∧ at_ ds (16 + (i : Int)) < 36 := fun i hi => hb.at (k := 16 + (i : Int)) (s := 36) (by omega) (by
    rw [show (16 + (i : Int)).toNat = 16 + i by omega]
    match i, hi with
    | 0, _ => rfl
    | 1, _ => rfl
    | 2, _ => rfl
    | 3, _ => rfl)
  have hlt : ∀ p : Int, 0 ≤ p → p < 36 → ∃ c, ixD (dS (codes "abcdefghijklmnopqrstuvwxyz0123456789")) (.int p) = some (dS [c]) ∧ nch c = true := fun p h0 h1 =>
    ⟨ltrs.getD p.toNat 0, ixS (by decide) h0 (by show p < ((36 : Nat) : Int); omega), ltrs_ok p.toNat (by omega)⟩
  walk_at "zz"
  obtain ⟨l, el, hl, hlP⟩ := join_rng (it := dRng1 (aCons (dC (.int 12)) aNil)) (te := d2 ixD (dVar 2) (d2 ixD (dVar 1) (dVar 5))) (g := [some (.v (.int c)), some (.v (.lst (iL ds))), some (.v (dS (codes "abcdefghijklmnopqrstuvwxyz0123456789"))), none, none, none, none]) (n := 12) (m := 5) (by omega) (fun c => nch c = true) rfl rfl fun i hi => by
    obtain ⟨k, e, h1⟩ := hlt (at_ ds (0 + (i : Int))) (b0 i hi).1 (b0 i hi).2
    refine ⟨_, k, dName_ok rfl, ?_, h1⟩
    walk_at "zz"
    exact e
  rw [el]
  walk_at "zz"
  rw [show SX.S (codes "") = SX.S [] from rfl, join_signs (by omega)]
  walk_at "zz"
  refine rng_then (C := fun o => ∃ W : Ws, outW o = some (Wd.o (D.lst (W.map dS))) ∧ W.length = 4 ∧ ∀ w ∈ W, isName w = true) (fun i g => ∃ (W : Ws) (k5 k6 : Option Wd), g = [some (.v (.int c)), some (.v (.lst (iL ds))), some (.v (dS (codes "abcdefghijklmnopqrstuvwxyz0123456789"))), some (.v (dS l)), some (.o (.lst (W.map dS))), k5, k6] ∧ W.length = i ∧ ∀ w ∈ W, isName w = true) ?_ ?_ ?_ ?_
  · exact ⟨[], _, _, rfl, rfl, fun w m => by cases m⟩
  · rintro i g ⟨W, k5, k6, rfl, _⟩
    rfl
  · rintro i g hi ⟨W, k5, k6, rfl, hW, hn⟩
    obtain ⟨p0, p1⟩ := b1 i hi
    obtain ⟨q0, q1⟩ := b2 i hi
    obtain ⟨k, e, h1⟩ := hlt _ q0 q1
    show StepTo (sSeq _ _ [some (.v (.int c)), some (.v (.lst (iL ds))), some (.v (dS (codes "abcdefghijklmnopqrstuvwxyz0123456789"))), some (.v (dS l)), some (.o (.lst (W.map dS))), some (.v (.int (i : Int))), k6]) _
    walk_at "zz"
    rw [sl_to (by omega) p0, e]
    have h2 : (l.take (at_ ds (12 + (i : Int))).toNat).length + [k].length ≤ 100000 := by
      rw [List.length_take, List.length_singleton]
      omega
    walk_at "zz"
    rw [add_S h2]
    walk_at "zz"
    have hlen : W.length + 1 ≤ 100000 := by omega
    refine step_nx ⟨W ++ [l.take (at_ ds (12 + (i : Int))).toNat ++ [k]], some (.v (.int (i : Int))), some (.v (.int (at_ ds (12 + (i : Int))))), ?_, by simp [hW], fun w m => ?_⟩
    · rw [List.map_append]
      rfl
    · rcases List.mem_append.mp m with m | m
      · exact hn w m
      · rw [List.mem_singleton.mp m]
        unfold isName
        rw [Bool.and_eq_true, Bool.and_eq_true, decide_eq_true_eq, decide_eq_true_eq, List.length_append, List.length_take, List.length_singleton]
        refine ⟨⟨by omega, by omega⟩, List.all_eq_true.mpr fun x m => ?_⟩
        rcases List.mem_append.mp m with m | m
        · exact hlP x (List.mem_of_mem_take m)
        · rw [List.mem_singleton.mp m]; exact h1
  · rintro g ⟨W, k5, k6, rfl, hW, hn⟩
    exact ⟨W, rfl, hW, hn⟩
end Rk
end

section
set_option Elab.async false
set_option linter.all false
set_option maxRecDepth 100000
set_option maxHeartbeats 4000000
/-! The law's texts of records. -/
namespace Y
open PySem L2 Zk Zc Zj Rk
theorem eq_picture_erase : eqD (dS (codes "picture")) (dS (codes "erase")) = some (.bl false) := by rw [eq_S (by decide) (by decide)]; exact congrArg (fun z => some (D.bl z)) (by decide)
theorem eq_picture_picture : eqD (dS (codes "picture")) (dS (codes "picture")) = some (.bl true) := by rw [eq_S (by decide) (by decide)]; exact congrArg (fun z => some (D.bl z)) (by decide)
theorem eq_picture_put : eqD (dS (codes "picture")) (dS (codes "put")) = some (.bl false) := by rw [eq_S (by decide) (by decide)]; exact congrArg (fun z => some (D.bl z)) (by decide)
theorem eq_picture_cap : eqD (dS (codes "picture")) (dS (codes "cap")) = some (.bl false) := by rw [eq_S (by decide) (by decide)]; exact congrArg (fun z => some (D.bl z)) (by decide)
theorem eq_put_erase : eqD (dS (codes "put")) (dS (codes "erase")) = some (.bl false) := by rw [eq_S (by decide) (by decide)]; exact congrArg (fun z => some (D.bl z)) (by decide)
theorem eq_put_picture : eqD (dS (codes "put")) (dS (codes "picture")) = some (.bl false) := by rw [eq_S (by decide) (by decide)]; exact congrArg (fun z => some (D.bl z)) (by decide)
theorem eq_put_put : eqD (dS (codes "put")) (dS (codes "put")) = some (.bl true) := by rw [eq_S (by decide) (by decide)]; exact congrArg (fun z => some (D.bl z)) (by decide)
theorem eq_put_cap : eqD (dS (codes "put")) (dS (codes "cap")) = some (.bl false) := by rw [eq_S (by decide) (by decide)]; exact congrArg (fun z => some (D.bl z)) (by decide)
theorem eq_erase_erase : eqD (dS (codes "erase")) (dS (codes "erase")) = some (.bl true) := by rw [eq_S (by decide) (by decide)]; exact congrArg (fun z => some (D.bl z)) (by decide)
theorem eq_erase_picture : eqD (dS (codes "erase")) (dS (codes "picture")) = some (.bl false) := by rw [eq_S (by decide) (by decide)]; exact congrArg (fun z => some (D.bl z)) (by decide)
theorem eq_erase_put : eqD (dS (codes "erase")) (dS (codes "put")) = some (.bl false) := by rw [eq_S (by decide) (by decide)]; exact congrArg (fun z => some (D.bl z)) (by decide)
theorem eq_erase_cap : eqD (dS (codes "erase")) (dS (codes "cap")) = some (.bl false) := by rw [eq_S (by decide) (by decide)]; exact congrArg (fun z => some (D.bl z)) (by decide)
theorem eq_deal_erase : eqD (dS (codes "deal")) (dS (codes "erase")) = some (.bl false) := by rw [eq_S (by decide) (by decide)]; exact congrArg (fun z => some (D.bl z)) (by decide)
theorem eq_deal_picture : eqD (dS (codes "deal")) (dS (codes "picture")) = some (.bl false) := by rw [eq_S (by decide) (by decide)]; exact congrArg (fun z => some (D.bl z)) (by decide)
theorem eq_deal_put : eqD (dS (codes "deal")) (dS (codes "put")) = some (.bl false) := by rw [eq_S (by decide) (by decide)]; exact congrArg (fun z => some (D.bl z)) (by decide)
theorem eq_deal_cap : eqD (dS (codes "deal")) (dS (codes "cap")) = some (.bl false) := by rw [eq_S (by decide) (by decide)]; exact congrArg (fun z => some (D.bl z)) (by decide)
theorem eq_cap_erase : eqD (dS (codes "cap")) (dS (codes "erase")) = some (.bl false) := by rw [eq_S (by decide) (by decide)]; exact congrArg (fun z => some (D.bl z)) (by decide)
theorem eq_cap_picture : eqD (dS (codes "cap")) (dS (codes "picture")) = some (.bl false) := by rw [eq_S (by decide) (by decide)]; exact congrArg (fun z => some (D.bl z)) (by decide)
theorem eq_cap_put : eqD (dS (codes "cap")) (dS (codes "put")) = some (.bl false) := by rw [eq_S (by decide) (by decide)]; exact congrArg (fun z => some (D.bl z)) (by decide)
theorem eq_cap_cap : eqD (dS (codes "cap")) (dS (codes "cap")) = some (.bl true) := by rw [eq_S (by decide) (by decide)]; exact congrArg (fun z => some (D.bl z)) (by decide)
theorem ix2_0 {a b : D} : ixD (.tup [a, b]) (.int 0) = some a := (rfl)
theorem ix2_1 {a b : D} : ixD (.tup [a, b]) (.int 1) = some b := (rfl)
theorem ix2_m {a b : D} : ixD (.tup [a, b]) (.int (-1)) = some b := (rfl)
theorem ix3_0 {a b c : D} : ixD (.tup [a, b, c]) (.int 0) = some a := (rfl)
theorem ix3_1 {a b c : D} : ixD (.tup [a, b, c]) (.int 1) = some b := (rfl)
theorem ix3_2 {a b c : D} : ixD (.tup [a, b, c]) (.int 2) = some c := (rfl)
theorem ix3_m {a b c : D} : ixD (.tup [a, b, c]) (.int (-1)) = some c := (rfl)
theorem ix4_0 {a b c d : D} : ixD (.tup [a, b, c, d]) (.int 0) = some a := (rfl)
theorem ix4_1 {a b c d : D} : ixD (.tup [a, b, c, d]) (.int 1) = some b := (rfl)
theorem ix4_2 {a b c d : D} : ixD (.tup [a, b, c, d]) (.int 2) = some c := (rfl)
theorem ix4_3 {a b c d : D} : ixD (.tup [a, b, c, d]) (.int 3) = some d := (rfl)
theorem ix4_m {a b c d : D} : ixD (.tup [a, b, c, d]) (.int (-1)) = some d := (rfl)
def apAddO (ds : List D) : Option D → Option D := fun o => o.bind fun y => addD (.lst ds) y
theorem dAddO1 {b : DF} {x0 : Option Wd} {ds : List D} {r : Gm} : Zq7.dAddO 1 b (x0 :: some (.o (.lst ds)) :: r) = apAddO ds (b (x0 :: some (.o (.lst ds)) :: r)) := rfl
theorem apAddO_l {ds ys : List D} (h : ds.length + ys.length ≤ 100000) : apAddO ds (some (.lst ys)) = some (.lst (ds ++ ys)) := if_pos h
def apAddL (ds : List D) : Option D → Option D := fun o => o.bind fun y => Zra.addL (.lst ds) y
theorem addOL1 {b : DF} {x0 : Option Wd} {ds : List D} {r : Gm} : Zra.addOL 1 b (x0 :: some (.o (.lst ds)) :: r) = apAddL ds (b (x0 :: some (.o (.lst ds)) :: r)) := rfl
theorem apAddL_l {ds ys : List D} (h : ds.length + ys.length ≤ 100000) : apAddL ds (some (.lst ys)) = some (.lst (ds ++ ys)) := if_pos h
theorem addL_l {ds ys : List D} (h : ds.length + ys.length ≤ 100000) : Zra.addL (.lst ds) (.lst ys) = some (.lst (ds ++ ys)) := if_pos h
theorem neg1 : negD (.int 1) = some (.int (-1)) := (rfl)
local macro_rules | `(tactic| walk_at "zs") => `(tactic| simp only [beq_self_eq_true, Bool.or_false, Bool.false_or, Bool.true_or, Bool.or_true, Bool.and_false, Bool.false_and, Bool.true_and, Bool.and_true, Zc.isi_ii, Zc.isi_ib, Zc.isi_tt, Zc.isi_ll, Zc.rowsT_len, Zc.rowsL_len, Zc.is_integer_call, Zc.ix_p0, Zc.ix_p1, dgTup2_a, dgTup3_a, Bool.not_true, Bool.not_false, mul_lz, List.flatten_cons, List.flatten_nil, Int.reduceToNat, add_ll, pow10_12, pow10_18, pow10_39, pow10_41, pow10_59, pow10_60, mkLst_some, mkTup_some, List.length_cons, List.length_nil, Nat.zero_le, Nat.reduceAdd, Nat.reduceLeDiff, call1, callO1, call2, callO2, call3, callO3, call4, callO4, call5, callO5, call6, callO6, ap1_some, ap2_some, apN_some, apC_some, d1_a, d2_a, dN_a, aNil_a, aCons_a, dC_a, dVar_z, dVar_s, tDt_a, apAnd_t, apAnd_f, apOr_t, apOr_f, dAndT_a, dOrT_a, apNot_some, dNotT_a, apAndV_t, apAndV_f, dAndV_a, apOrV_t, apOrV_f, dOrV_a, apIf_t, apIf_f, dIf_a, apCh_t, apCh_f, apChain_some, dChain_a, apSeq_nx, apSeq_rt, apSeq_ct, apSeq_bk, sSeq_a, apIfS_t, apIfS_f, sIf_a, sNext_a, sCont_a, sBreak_a, apRet_some, sRet_a, apRetO_some, sRetO_a, sRetN_a, getO_z, getO_s, apRetV_some, sRetV_a, ltB_z, ltB_s, okSlot_s, apAsg_some, sAsg_a, dName_ok, apG_some, dgCons_a, dgNil_a, apAsgO_some, sAsgO_a, sApp_a, sSetI_a, apFor_some, sFor_a, dItems_a, dRng1_a, dRng2_a, apEn_some, apEn_tup, dEnum_a, sFrz_a, frzs_nil, frzs_cons, frzI_o, frzI_v, frzI_n, frzI_s, frz1_s, frzAll_nil, frzAll_o, frzAll_v, frzAll_n, peekT_a, apPk_int, apPk_bl, apPk_str, apPk_non, peekF_a, dCall_a, toO_o, dCallO_a, dMake_a, Wd_v, Wd_o, dSl_a, apSl_some, oNone_a, oSome_a, apO_some, add_ii, sub_ii, lt_ii, le_ii, gt_ii, ge_ii, eq_ii, ne_ii, neg_i, not_b, bl_b, tru_b, tru_i, tru_l, tru_t, tru_n, len_l, len_t, len_scr, abs_i, int_i, list_l, list_t, tuple_l, tuple_t, min_ii, max_ii, rev_l, items_l, items_t, iL_len, run_a, outW_rt, outW_nx, List.map_cons, List.map_nil, List.replicate, List.append_nil, List.cons_append, List.nil_append, List.set_cons_zero, List.set_cons_succ, Option.map_some])
local macro_rules | `(tactic| walk_at "zd") => `(tactic| first | ((with_reducible show okSlot _ _ = true); simp only [okSlot_s, ltB_z, ltB_s]; done) | omega | assumption | decide | (simp only [List.length_map, List.length_append, List.length_cons, List.length_nil, List.length_range, List.length_set, List.length_reverse, iL_len, Zc.rowsT_len, Zc.rowsL_len] at *; omega))
local macro_rules | `(tactic| walk_at "zz") => `(tactic| simp (disch := walk_at "zd") only [dgTup2_a, dgTup3_a, Bool.not_true, Bool.not_false, mul_lz, List.flatten_cons, List.flatten_nil, Int.reduceToNat, add_ll, pow10_12, pow10_18, pow10_39, pow10_41, pow10_59, pow10_60, mkLst_some, mkTup_some, List.length_cons, List.length_nil, Nat.zero_le, Nat.reduceAdd, Nat.reduceLeDiff, call1, callO1, call2, callO2, call3, callO3, call4, callO4, call5, callO5, call6, callO6, ap1_some, ap2_some, apN_some, apC_some, d1_a, d2_a, dN_a, aNil_a, aCons_a, dC_a, dVar_z, dVar_s, tDt_a, apAnd_t, apAnd_f, apOr_t, apOr_f, dAndT_a, dOrT_a, apNot_some, dNotT_a, apAndV_t, apAndV_f, dAndV_a, apOrV_t, apOrV_f, dOrV_a, apIf_t, apIf_f, dIf_a, apCh_t, apCh_f, apChain_some, dChain_a, apSeq_nx, apSeq_rt, apSeq_ct, apSeq_bk, sSeq_a, apIfS_t, apIfS_f, sIf_a, sNext_a, sCont_a, sBreak_a, apRet_some, sRet_a, apRetO_some, sRetO_a, sRetN_a, getO_z, getO_s, apRetV_some, sRetV_a, ltB_z, ltB_s, okSlot_s, apAsg_some, sAsg_a, dName_ok, apG_some, dgCons_a, dgNil_a, apAsgO_some, sAsgO_a, sApp_a, sSetI_a, apFor_some, sFor_a, dItems_a, dRng1_a, dRng2_a, apEn_some, apEn_tup, dEnum_a, sFrz_a, frzs_nil, frzs_cons, frzI_o, frzI_v, frzI_n, frzI_s, frz1_s, frzAll_nil, frzAll_o, frzAll_v, frzAll_n, peekT_a, apPk_int, apPk_bl, apPk_str, apPk_non, peekF_a, dCall_a, toO_o, dCallO_a, dMake_a, Wd_v, Wd_o, dSl_a, apSl_some, oNone_a, oSome_a, apO_some, add_ii, sub_ii, lt_ii, le_ii, gt_ii, ge_ii, eq_ii, ne_ii, neg_i, not_b, bl_b, tru_b, tru_i, tru_l, tru_t, tru_n, len_l, len_t, len_scr, abs_i, int_i, list_l, list_t, tuple_l, tuple_t, min_ii, max_ii, rev_l, items_l, items_t, iL_len, run_a, outW_rt, outW_nx, List.map_cons, List.map_nil, List.replicate, List.append_nil, List.cons_append, List.nil_append, List.set_cons_zero, List.set_cons_succ, Option.map_some, Int.reduceAdd, Int.reduceMul, Int.reduceSub, Int.reduceNeg, beq_self_eq_true, Bool.or_false, Bool.false_or, Bool.true_or, Bool.or_true, Bool.and_false, Bool.false_and, Bool.true_and, Bool.and_true, Zc.isi_ii, Zc.isi_ib, Zc.isi_tt, Zc.isi_ll, Zc.rowsT_len, Zc.rowsL_len, Zc.is_integer_call, Zc.ix_p0, Zc.ix_p1, apR1_any, Int.toNat_natCast, apR2_some, mod_ii, fdiv_ii, mul_small, apApp_some, ix_at, ix_atT, ix_atI, ix_atIT, ix_atR, ix_atRT, List.length_map, List.length_append, List.length_range, List.length_set, Option.map_none, Option.map_map, decide_true, decide_false, peekO_a, apPkO_i, frz_wo, frz_wv, frz_kk, wipeG_nil, wipeG_cons, orB_s, orB_t, orB_f, andB_s, andB_t, andB_f, orV_s, orV_t, orV_f, andV_s, andV_t, andV_f, apOr_b, apAnd_b, apOrV_b, apAndV_b, apCh_b, Zc.cut_from, Zc.cut_to, in_l, in_t, in_pr, eq_op_op, eq_op_pr, eq_pr_op, eq_pr_pr, ne_op_op, ne_op_pr, ne_pr_op, ne_pr_pr, isnt_op, is_op, pr_0, pr_1, st_0, st_1, inP_pr, ninP_pr, nin_l, isi_prt, len_pr, op_some, prD_eq, ix_lit2, ix_lit3, ix_lit4, ix_lit5, ix_lit6, ix_lit7, ix_lit8, ix_lit9, ix_lit10, ix_lit11, ix_lit12, ix_lit13, ix_lit14, ix_lit15, setI_i, setI_p, setI_o, setI_n, snoc_i, snoc_r, snoc_p, snoc_n, snoc_o, snoc_pp, snoc_s, eq_ol, ne_ol, eq_pl, ne_pl, eq_sl, ne_sl, eq_il, ne_il, eq_rl, ne_rl, eq_il1, isi_bb, eq_bb, ne_bb, eq_self, lit, dM1_a, apM1_S, dM0_a, apM0_S, Bool.not_true, Bool.not_false, dSlS_w, apSl_s, Int.reduceBEq, Rk.is_tn, Rk.is_nn, isi_st, isi_stt, isi_is, isi_itt, isi_ts, Rk.isi_tt, Rk.isi_call, neg1, dAddO1, apAddO_l, addOL1, apAddL_l, addL_l, eq_picture_erase, eq_picture_picture, eq_picture_put, eq_picture_cap, eq_put_erase, eq_put_picture, eq_put_put, eq_put_cap, eq_erase_erase, eq_erase_picture, eq_erase_put, eq_erase_cap, eq_deal_erase, eq_deal_picture, eq_deal_put, eq_deal_cap, eq_cap_erase, eq_cap_picture, eq_cap_put, eq_cap_cap, ix2_0, ix2_1, ix2_m, ix3_0, ix3_1, ix3_2, ix3_m, ix4_0, ix4_1, ix4_2, ix4_3, ix4_m])
local macro_rules | `(tactic| walk_at "zf") => `(tactic| first | (walk_at "zz"; done) | (walk_at "zz"; rfl) | rfl)
local macro_rules | `(tactic| walk_at "lc") => `(tactic| ((case hf => rfl); (case hi => first | (walk_at "zz"; done) | (walk_at "zz"; rfl) | rfl); (case hl => walk_at "zd"); (case h => (intro a ha; refine ⟨_, dName_ok rfl, ?_, fun hT => ?_⟩ <;> walk_at "zz" <;> rfl))))
local macro_rules | `(tactic| walk_at "lm") => `(tactic| ((case hf => rfl); (case hi => first | (walk_at "zz"; done) | (walk_at "zz"; rfl) | rfl); (case hl => walk_at "zd"); (case h => (intro a ha; refine ⟨_, dName_ok rfl, ?_⟩; walk_at "zz"; rfl))))
theorem law_join_spec {ns : List Int} (h : ∀ x ∈ ns, NumOk x) (hl : ns.length ≤ 1000) : g_law_join [.tup (iL ns)] = some (.v (dS (joinN ns))) := by
  unfold g_law_join t_law_join
  walk_at "zz"
  rewrite [dLc_map (D.int) (xs := ns) (F := fun n => dS (num n))]
  case hf => rfl
  case hi => walk_at "zz"; rfl
  case hl => omega
  case h =>
    intro n hn
    refine ⟨_, dName_ok rfl, ?_⟩
    walk_at "zz"
    exact str_num (h n hn).h0 (h n hn).h1
  walk_at "zz"
  have e2 : ns.map (fun n => dS (num n)) = (ns.map num).map dS := by rw [List.map_map]; rfl
  have e3 : ((ns.map num).map List.length).sum ≤ 60 * ns.length := by
    clear hl e2
    induction ns with
    | nil => exact Nat.le_refl _
    | cons m ms ih =>
      have h1 := num_len (h m List.mem_cons_self).h0 (h m List.mem_cons_self).h1
      have h2 := ih fun n hn => h n (List.mem_cons_of_mem _ hn)
      rw [List.map_cons, List.map_cons, List.sum_cons, List.length_cons]
      omega
  rw [e2, join_S (by rw [List.length_map]; show _ + ns.length * 1 ≤ _; omega)]
  walk_at "zz"
  rfl
def tbody : SF := (sApp 1 (d2 addD (d2 addD (d2 addD (d2 addD (dN Zj.strD (aCons (d2 ixD (dVar 2) (dC (.int 0))) aNil)) (dC (.str ":"))) (dN Zj.strD (aCons (d2 ixD (dVar 2) (dC (.int 1))) aNil))) (dC (.str ","))) (dN Zj.strD (aCons (d2 ixD (dVar 2) (dC (.int 2))) aNil))))
def tfin : SF := (sFrz [1] (sRet (d2 addD (Zj.dM1 Zj.joinD (dC (.str " ")) (dVar 1)) (dC (.str ";")))))
theorem num60 {x : Int} (h : NumOk x) : (num x).length ≤ 60 := num_len h.h0 h.h1
theorem len_join (s : L) : ∀ ws : Ws, (ws.map List.length).sum + ws.length * s.length ≤ (TL.joinL s ws).length + s.length
  | [] => by simp
  | [p] => by show p.length + 0 + 1 * s.length ≤ p.length + s.length; omega
  | p :: q :: r => by
    have h := len_join s (q :: r)
    show (p.length + ((q :: r).map List.length).sum) + ((q :: r).length + 1) * s.length ≤ (p ++ (s ++ TL.joinL s (q :: r))).length + s.length
    rw [List.length_append, List.length_append, Nat.add_mul]
    omega
theorem tail_spec {r : D} {es : List (Int × Int × Int)} {W : Ws} {V : List D} {k2 k3 : Option Wd} (hV : V = (W ++ [[47]]).map dS) (he : EsOk es) (hl : es.length ≤ 1000) (hW : W.length ≤ 1000) (hj : (TL.joinL [32] (W ++ [47] :: es.map wdT)).length ≤ 640) :
    outW (apSeq (apFor (itemsD (wsD es)) (dName 2) tbody [some (.v r), some (.o (.lst V)), k2, k3]) tfin) = some (.v (dS (TL.joinL [32] (W ++ [47] :: es.map wdT) ++ [59]))) := by
  unfold tbody tfin
  subst hV
  rw [show itemsD (wsD es) = some (es.map wdD) from rfl]
  walk_at "zz"
  refine loop_each (C := fun o => outW o = _) wdD es (fun i g => ∃ k2 : Option Wd, g = [some (.v r), some (.o (.lst ((W ++ [47] :: (es.take i).map wdT).map dS))), k2, k3]) ?_ ?_ ?_
  · refine ⟨k2, ?_⟩
    rw [List.take_zero, List.map_nil]
  · rintro i e g hi ⟨k2, rfl⟩
    have hm : e ∈ es := List.mem_of_getElem? hi
    obtain ⟨n1, n2, n3, n4⟩ := he.n e hm
    refine ⟨_, dName_ok rfl, ?_⟩
    show StepTo (sApp _ _ [some (.v r), some (.o (.lst ((W ++ [47] :: (es.take i).map wdT).map dS))), some (.v (.tup [.int e.1, .int e.2.1, .int e.2.2])), k3]) _
    have l1 := num60 n1
    have l2 := num60 n2
    have l3 := num60 n3
    have hlen : ((W ++ [47] :: (es.take i).map wdT).map dS).length + 1 ≤ 100000 := by
      rw [List.length_map, List.length_append, List.length_cons, List.length_map, List.length_take]
      omega
    generalize hV : ((W ++ [47] :: (es.take i).map wdT).map dS) = V at hlen ⊢
    walk_at "zz"
    rw [str_num n1.h0 n1.h1, str_num n2.h0 n2.h1, str_num n3.h0 n3.h1]
    walk_at "zz"
    have lc : (codes ":").length = 1 := rfl
    have lk : (codes ",").length = 1 := rfl
    rw [add_S (by omega)]
    walk_at "zz"
    rw [add_S (by rw [List.length_append]; omega)]
    walk_at "zz"
    rw [add_S (by rw [List.length_append, List.length_append]; omega)]
    walk_at "zz"
    rw [add_S (by rw [List.length_append, List.length_append, List.length_append]; omega)]
    walk_at "zz"
    refine step_nx ⟨some (.v (wdD e)), ?_⟩
    have ew : num e.1 ++ codes ":" ++ num e.2.1 ++ codes "," ++ num e.2.2 = wdT e := by
      show num e.1 ++ [58] ++ num e.2.1 ++ [44] ++ num e.2.2 = num e.1 ++ 58 :: (num e.2.1 ++ ([44] ++ num e.2.2))
      simp
    have eV : V ++ [dS (wdT e)] = (W ++ [47] :: (es.take (i + 1)).map wdT).map dS := by
      rw [← hV, List.take_succ_eq_append_getElem (List.getElem?_eq_some_iff.mp hi).1, (List.getElem?_eq_some_iff.mp hi).2]
      simp
    rw [ew, eV]
    rfl
  · rintro g ⟨k2, rfl⟩
    rw [List.take_length]
    walk_at "zz"
    rw [cSp, cSemi, join_S (by have := len_join [32] (W ++ [47] :: es.map wdT); simp only [List.length_singleton] at this ⊢; omega)]
    walk_at "zz"
    rw [add_S (by simp; omega)]
    walk_at "zz"
theorem words_le {r : Rec} (h : RecSm r) : (wordsOf r).length ≤ 641 ∧ ∀ w ∈ wordsOf r, w.length ≤ 640 := by
  have h2 := h.len
  unfold textOf bodyOf at h2
  rw [List.length_append] at h2
  have h1 := joinL_ge (s := [32]) (by simp) (wordsOf r)
  refine ⟨by simp at h2; omega, fun w m => ?_⟩
  have h1 := joinL_part (s := [32]) m
  omega
theorem join_cnt {ns : List Int} (hn : (joinN ns).length ≤ 640) : ns.length ≤ 1000 := by
  have := joinL_ge (s := [44]) (by simp) (ns.map num)
  unfold joinN at hn
  rw [List.length_map] at this
  omega
theorem nmT_le {n : L × List Int} (h : (nmT n).length ≤ 640) : n.1.length ≤ 640 ∧ (joinN n.2).length ≤ 640 := by
  unfold nmT at h
  rw [List.length_append, List.length_cons] at h
  omega
theorem body_le {r : Rec} (h : RecSm r) : (TL.joinL [32] (wordsOf r)).length ≤ 640 := by
  have h2 := h.len
  unfold textOf bodyOf at h2
  rw [List.length_append] at h2
  omega
theorem text_of_spec {r : Rec} (h : RecSm r) : g_law_text_of [recD r] = some (.v (dS (textOf r))) := by
  obtain ⟨h1, h2⟩ := words_le h
  have hb := body_le h
  have ce : codes "=" = [61] := rfl
  have e641 : ∀ {es : List (Int × Int × Int)}, [47] :: es.map wdT ⊆ wordsOf r → True := fun _ => trivial
  cases r with
  | pic caps ns es =>
    obtain ⟨k1, k2, k3, k4, k5⟩ := h.ok
    have hcap := join_cnt (h2 (joinN caps) (by simp [Rk.wordsOf]))
    have hns : ns.length + es.length ≤ 640 := by simp [Rk.wordsOf] at h1; omega
    have hnm : ∀ n ∈ ns, n.1.length ≤ 640 ∧ (joinN n.2).length ≤ 640 := fun n hn => nmT_le (h2 (nmT n) (by simp [Rk.wordsOf]; exact .inr (.inr (.inl ⟨_, _, hn, rfl⟩))))
    unfold g_law_text_of t_law_text_of
    show outW (sSeq _ _ [some (.v (.tup [dS (codes "picture"), .tup (iL caps), .tup (ns.map nmD), wsD es])), none, none, none]) = _
    walk_at "zz"
    rw [law_join_spec k2 hcap]
    walk_at "zz"
    rewrite [dLc_map nmD (xs := ns) (F := fun n => dS (nmT n))]
    case hf => rfl
    case hi => walk_at "zz"
    case hl => omega
    case h =>
      intro n hn
      refine ⟨_, dName_ok rfl, ?_⟩
      obtain ⟨m1, m2⟩ := hnm n hn
      show d2 addD _ _ [_, _, _, some (.v (.tup [dS n.1, .tup (iL n.2)]))] = _
      walk_at "zz"
      rw [law_join_spec (k3 n hn).ok (join_cnt m2)]
      walk_at "zz"
      rw [ce, add_S (by simp; omega)]
      walk_at "zz"
      rw [add_S (by simp; omega)]
      show some (dS (n.1 ++ [61] ++ joinN n.2)) = some (dS (n.1 ++ 61 :: joinN n.2))
      rw [List.append_assoc]
      rfl
    walk_at "zz"
    exact tail_spec (W := codes "picture" :: joinN caps :: ns.map nmT) (by simp [cSl]) k5 (by omega) (by simp; omega) (by simpa [Rk.wordsOf] using hb)
  | put n is es =>
    obtain ⟨k1, k2⟩ := h.ok
    have hes : es.length ≤ 640 := by simp [Rk.wordsOf] at h1; omega
    obtain ⟨m1, m2⟩ := nmT_le (h2 (nmT (n, is)) (by simp [Rk.wordsOf]))
    have m1 : n.length ≤ 640 := m1
    have m2 : (joinN is).length ≤ 640 := m2
    unfold g_law_text_of t_law_text_of
    show outW (sSeq _ _ [some (.v (.tup [dS (codes "put"), dS n, .tup (iL is), wsD es])), none, none, none]) = _
    walk_at "zz"
    rw [law_join_spec k1.ok (join_cnt m2), ce, add_S (by simp; omega)]
    walk_at "zz"
    rw [add_S (by simp; omega)]
    walk_at "zz"
    exact tail_spec (W := [codes "put", nmT (n, is)]) (by simp [cSl, nmT]) k2 (by omega) (by simp) (by simpa [Rk.wordsOf] using hb)
  | era n =>
    have hn := h2 n (by simp [Rk.wordsOf])
    unfold g_law_text_of t_law_text_of
    show outW (sSeq _ _ [some (.v (.tup [dS (codes "erase"), dS n])), none, none, none]) = _
    walk_at "zz"
    rw [add_S (by show 6 + n.length ≤ _; omega)]
    walk_at "zz"
    rw [add_S (by rw [List.length_append]; show 6 + n.length + 1 ≤ _; omega)]
    walk_at "zz"
    rfl
  | deal es =>
    have hes : es.length ≤ 640 := by simp [Rk.wordsOf] at h1; omega
    unfold g_law_text_of t_law_text_of
    show outW (sSeq _ _ [some (.v (.tup [dS (codes "deal"), wsD es])), none, none, none]) = _
    walk_at "zz"
    exact tail_spec (W := [codes "deal"]) (by simp [cSl]) h.ok (by omega) (by simp) (by simpa [Rk.wordsOf] using hb)
  | cap s c es =>
    obtain ⟨k1, k2, k3⟩ := h.ok
    have hes : es.length ≤ 640 := by simp [Rk.wordsOf] at h1; omega
    unfold g_law_text_of t_law_text_of
    show outW (sSeq _ _ [some (.v (.tup [dS (codes "cap"), .int s, .int c, wsD es])), none, none, none]) = _
    walk_at "zz"
    rw [str_num k1.h0 k1.h1, str_num k2.h0 k2.h1]
    walk_at "zz"
    exact tail_spec (W := [codes "cap", num s, num c]) (by simp [cSl]) k3 (by omega) (by simp) (by simpa [Rk.wordsOf] using hb)
end Y
end

section
set_option Elab.async false
set_option linter.all false
set_option maxRecDepth 100000
set_option maxHeartbeats 4000000
/-! Sorting: two names with numbers, texts. -/
namespace Rk
open L2 Zk Zc Zj Zrb
open PySem hiding wordsOf
theorem sort2 {α : Type} (le : α → α → Bool) (x y : α) : [x, y].mergeSort le = if le x y = true then [x, y] else [y, x] := by
  simp [List.mergeSort, List.MergeSort.Internal.splitInTwo, List.merge]
theorem alike_ints : ∀ a b : List Int, PySem.W.alikeAll (a.map PyData.int) (b.map PyData.int) = true
  | [], _ => by simp [PySem.W.alikeAll]
  | _ :: _, [] => by simp [PySem.W.alikeAll]
  | x :: a, y :: b => by
    show (PySem.W.alike (.int x) (.int y) && PySem.W.alikeAll (a.map PyData.int) (b.map PyData.int)) = true
    rw [alike_ints a b]
    rfl
theorem enc_nm (a : L × List Int) : toP (nmD a) = some (nmP a) := by
  show ((toP (dS a.1)).bind fun p => ((toP (.tup (iL a.2))).bind fun q => some [q]).map (p :: ·)).map PyData.tuple = _
  rw [show toP (.tup (iL a.2)) = some (.tuple (a.2.map PyData.int)) from encInt.tup.to a.2]
  rfl
theorem encD_nm (a : L × List Int) : encD (nmD a) = nmP a := by
  unfold encD
  rw [enc_nm]
  rfl
theorem alike_nm (a b : L × List Int) : PySem.W.alike (nmP a) (nmP b) = true := by
  show (PySem.W.alike (.str (SX.S a.1)) (.str (SX.S b.1)) && (PySem.W.alikeAll (a.2.map PyData.int) (b.2.map PyData.int) && true)) = true
  rw [alike_ints]
  rfl
theorem dep_nm (a : L × List Int) : (nmP a).depth ≤ 40 := by
  have h := encInt.tup.dep a.2
  show (PyData.tuple [.str (SX.S a.1), .tuple (a.2.map PyData.int)]).depth ≤ 40
  simp only [PyData.depth, PyData.depthAll] at h ⊢
  omega
theorem lt_nm {a b : L × List Int} (h : a.1 ≠ b.1) : PySem.W.dataLt (nmP a) (nmP b) = ltS a.1 b.1 := by
  unfold nmP
  rw [PySem.W.dataLt_tuple, PySem.W.dataLt_all_no rfl (by rw [eqv_S]; exact decide_eq_false h), PySem.W.dataLt_str]
  rfl
theorem le_nm {a b : L × List Int} (h : a.1 ≠ b.1) : leDat (nmD a) (nmD b) = !ltS b.1 a.1 := by
  show (!PySem.W.dataLt (encD (nmD b)) (encD (nmD a))) = _
  rw [encD_nm, encD_nm, lt_nm fun z => h z.symm]
theorem ltS_tri {a b : L} (h : a ≠ b) (h1 : ltS a b = false) : ltS b a = true := by
  unfold ltS at *
  rw [decide_eq_true_eq]
  have h1 := of_decide_eq_false h1
  by_cases h2 : b < a
  · exact h2
  · exact absurd (List.le_antisymm (List.not_lt.mp h2) (List.not_lt.mp h1)) h
theorem sort_nm {a b : L × List Int} (h : a.1 ≠ b.1) : ∃ ns : List (L × List Int), sortDatD [.lst [nmD a, nmD b]] = some (.lst (ns.map nmD)) ∧ (ns = [a, b] ∨ ns = [b, a]) ∧ riseL ltS (ns.map (·.1)) = true := by
  have e : sortDatD [.lst [nmD a, nmD b]] = some (.lst ([nmD a, nmD b].mergeSort leDat)) := by
    refine if_pos ⟨?_, ?_, .inl rfl, by simp, ?_⟩
    · have : toPs [nmD a, nmD b] = some [nmP a, nmP b] := by
        show (toP (nmD a)).bind (fun q => ((toP (nmD b)).bind fun q => some [q]).map (q :: ·)) = _
        rw [enc_nm, enc_nm]
        rfl
      rw [this]
      rfl
    · unfold alikeOk
      simp only [List.all_cons, List.all_nil, encD_nm, alike_nm]
      rfl
    · simp only [List.all_cons, List.all_nil, encD_nm, decide_eq_true (dep_nm a), decide_eq_true (dep_nm b)]
      rfl
  rw [e, sort2, le_nm h]
  cases hb : ltS b.1 a.1 with
  | true => exact ⟨[b, a], rfl, .inr rfl, by show (ltS b.1 a.1 && true) = true; rw [hb]; rfl⟩
  | false => exact ⟨[a, b], rfl, .inl rfl, by show (ltS a.1 b.1 && true) = true; rw [ltS_tri (fun z => h z.symm) hb]; rfl⟩
/-! ### rising lists -/
theorem rise_pw {α : Type} {lt : α → α → Bool} : ∀ {xs : List α}, xs.Pairwise (fun x y => lt x y = true) → riseL lt xs = true
  | [], _ => rfl
  | [x], _ => rfl
  | x :: y :: r, h => by
    have h1 := List.pairwise_cons.mp h
    show (lt x y && riseL lt (y :: r)) = true
    rw [h1.1 y List.mem_cons_self, rise_pw h1.2]
    rfl
theorem rise_rng {f : Nat → Int} (h0 : ∀ i, 0 < f i) (h : ∀ i j, i < j → f i < f j) (c : Nat) : riseL ltI (0 :: (List.range c).map f) = true := by
  refine rise_pw (List.pairwise_cons.mpr ⟨fun x m => ?_, List.pairwise_map.mpr (List.pairwise_lt_range.imp fun {a b} hab => decide_eq_true (h a b hab))⟩)
  obtain ⟨i, _, rfl⟩ := List.mem_map.mp m
  exact decide_eq_true (h0 i)
theorem num4 {x : Int} (h0 : 0 ≤ x) (h : x < 10000) : (num x).length ≤ 4 := TL.numL_len (by decide) (by omega)
theorem ok4 {x : Int} (h0 : 0 ≤ x) (h : x < 10000) : NumOk x := ⟨h0, Int.lt_trans h (by decide)⟩
theorem joinN4 {ns : List Int} (h : ∀ x ∈ ns, 0 ≤ x ∧ x < 10000) : (joinN ns).length ≤ 5 * ns.length := by
  unfold joinN
  have := Zd.joinL_len (s := [44]) (b := 4) (ws := ns.map num) fun p m => by obtain ⟨x, hx, rfl⟩ := List.mem_map.mp m; exact num4 (h x hx).1 (h x hx).2
  rw [List.length_map] at this
  simp at this
  omega
theorem sm_len {r : Rec} (h1 : (wordsOf r).length ≤ 20) (h2 : ∀ w ∈ wordsOf r, w.length ≤ 30) : (textOf r).length ≤ 640 := by
  have h3 := Zd.joinL_len (s := [32]) h2
  unfold textOf bodyOf
  rw [List.length_append]
  have h4 : (wordsOf r).length * (30 + 1) ≤ 20 * 31 := Nat.mul_le_mul h1 (Nat.le_refl _)
  simp at h3 ⊢
  omega
end Rk
end

section
set_option Elab.async false
set_option linter.all false
set_option maxRecDepth 100000
set_option maxHeartbeats 4000000
/-! The law's small records. -/
namespace Y
open L2 Zk Zc Zj Rk
open PySem hiding wordsOf
local macro_rules | `(tactic| walk_at "zs") => `(tactic| simp only [beq_self_eq_true, Bool.or_false, Bool.false_or, Bool.true_or, Bool.or_true, Bool.and_false, Bool.false_and, Bool.true_and, Bool.and_true, Zc.isi_ii, Zc.isi_ib, Zc.isi_tt, Zc.isi_ll, Zc.rowsT_len, Zc.rowsL_len, Zc.is_integer_call, Zc.ix_p0, Zc.ix_p1, dgTup2_a, dgTup3_a, Bool.not_true, Bool.not_false, mul_lz, List.flatten_cons, List.flatten_nil, Int.reduceToNat, add_ll, pow10_12, pow10_18, pow10_39, pow10_41, pow10_59, pow10_60, mkLst_some, mkTup_some, List.length_cons, List.length_nil, Nat.zero_le, Nat.reduceAdd, Nat.reduceLeDiff, call1, callO1, call2, callO2, call3, callO3, call4, callO4, call5, callO5, call6, callO6, ap1_some, ap2_some, apN_some, apC_some, d1_a, d2_a, dN_a, aNil_a, aCons_a, dC_a, dVar_z, dVar_s, tDt_a, apAnd_t, apAnd_f, apOr_t, apOr_f, dAndT_a, dOrT_a, apNot_some, dNotT_a, apAndV_t, apAndV_f, dAndV_a, apOrV_t, apOrV_f, dOrV_a, apIf_t, apIf_f, dIf_a, apCh_t, apCh_f, apChain_some, dChain_a, apSeq_nx, apSeq_rt, apSeq_ct, apSeq_bk, sSeq_a, apIfS_t, apIfS_f, sIf_a, sNext_a, sCont_a, sBreak_a, apRet_some, sRet_a, apRetO_some, sRetO_a, sRetN_a, getO_z, getO_s, apRetV_some, sRetV_a, ltB_z, ltB_s, okSlot_s, apAsg_some, sAsg_a, dName_ok, apG_some, dgCons_a, dgNil_a, apAsgO_some, sAsgO_a, sApp_a, sSetI_a, apFor_some, sFor_a, dItems_a, dRng1_a, dRng2_a, apEn_some, apEn_tup, dEnum_a, sFrz_a, frzs_nil, frzs_cons, frzI_o, frzI_v, frzI_n, frzI_s, frz1_s, frzAll_nil, frzAll_o, frzAll_v, frzAll_n, peekT_a, apPk_int, apPk_bl, apPk_str, apPk_non, peekF_a, dCall_a, toO_o, dCallO_a, dMake_a, Wd_v, Wd_o, dSl_a, apSl_some, oNone_a, oSome_a, apO_some, add_ii, sub_ii, lt_ii, le_ii, gt_ii, ge_ii, eq_ii, ne_ii, neg_i, not_b, bl_b, tru_b, tru_i, tru_l, tru_t, tru_n, len_l, len_t, len_scr, abs_i, int_i, list_l, list_t, tuple_l, tuple_t, min_ii, max_ii, rev_l, items_l, items_t, iL_len, run_a, outW_rt, outW_nx, List.map_cons, List.map_nil, List.replicate, List.append_nil, List.cons_append, List.nil_append, List.set_cons_zero, List.set_cons_succ, Option.map_some])
local macro_rules | `(tactic| walk_at "zd") => `(tactic| first | ((with_reducible show okSlot _ _ = true); simp only [okSlot_s, ltB_z, ltB_s]; done) | omega | assumption | decide | (simp only [List.length_map, List.length_append, List.length_cons, List.length_nil, List.length_range, List.length_set, List.length_reverse, iL_len, Zc.rowsT_len, Zc.rowsL_len] at *; omega))
local macro_rules | `(tactic| walk_at "zz") => `(tactic| simp (disch := walk_at "zd") only [dgTup2_a, dgTup3_a, Bool.not_true, Bool.not_false, mul_lz, List.flatten_cons, List.flatten_nil, Int.reduceToNat, add_ll, pow10_12, pow10_18, pow10_39, pow10_41, pow10_59, pow10_60, mkLst_some, mkTup_some, List.length_cons, List.length_nil, Nat.zero_le, Nat.reduceAdd, Nat.reduceLeDiff, call1, callO1, call2, callO2, call3, callO3, call4, callO4, call5, callO5, call6, callO6, ap1_some, ap2_some, apN_some, apC_some, d1_a, d2_a, dN_a, aNil_a, aCons_a, dC_a, dVar_z, dVar_s, tDt_a, apAnd_t, apAnd_f, apOr_t, apOr_f, dAndT_a, dOrT_a, apNot_some, dNotT_a, apAndV_t, apAndV_f, dAndV_a, apOrV_t, apOrV_f, dOrV_a, apIf_t, apIf_f, dIf_a, apCh_t, apCh_f, apChain_some, dChain_a, apSeq_nx, apSeq_rt, apSeq_ct, apSeq_bk, sSeq_a, apIfS_t, apIfS_f, sIf_a, sNext_a, sCont_a, sBreak_a, apRet_some, sRet_a, apRetO_some, sRetO_a, sRetN_a, getO_z, getO_s, apRetV_some, sRetV_a, ltB_z, ltB_s, okSlot_s, apAsg_some, sAsg_a, dName_ok, apG_some, dgCons_a, dgNil_a, apAsgO_some, sAsgO_a, sApp_a, sSetI_a, apFor_some, sFor_a, dItems_a, dRng1_a, dRng2_a, apEn_some, apEn_tup, dEnum_a, sFrz_a, frzs_nil, frzs_cons, frzI_o, frzI_v, frzI_n, frzI_s, frz1_s, frzAll_nil, frzAll_o, frzAll_v, frzAll_n, peekT_a, apPk_int, apPk_bl, apPk_str, apPk_non, peekF_a, dCall_a, toO_o, dCallO_a, dMake_a, Wd_v, Wd_o, dSl_a, apSl_some, oNone_a, oSome_a, apO_some, add_ii, sub_ii, lt_ii, le_ii, gt_ii, ge_ii, eq_ii, ne_ii, neg_i, not_b, bl_b, tru_b, tru_i, tru_l, tru_t, tru_n, len_l, len_t, len_scr, abs_i, int_i, list_l, list_t, tuple_l, tuple_t, min_ii, max_ii, rev_l, items_l, items_t, iL_len, run_a, outW_rt, outW_nx, List.map_cons, List.map_nil, List.replicate, List.append_nil, List.cons_append, List.nil_append, List.set_cons_zero, List.set_cons_succ, Option.map_some, Int.reduceAdd, Int.reduceMul, Int.reduceSub, Int.reduceNeg, beq_self_eq_true, Bool.or_false, Bool.false_or, Bool.true_or, Bool.or_true, Bool.and_false, Bool.false_and, Bool.true_and, Bool.and_true, Zc.isi_ii, Zc.isi_ib, Zc.isi_tt, Zc.isi_ll, Zc.rowsT_len, Zc.rowsL_len, Zc.is_integer_call, Zc.ix_p0, Zc.ix_p1, apR1_any, Int.toNat_natCast, apR2_some, mod_ii, fdiv_ii, mul_small, apApp_some, ix_at, ix_atT, ix_atI, ix_atIT, ix_atR, ix_atRT, List.length_map, List.length_append, List.length_range, List.length_set, Option.map_none, Option.map_map, decide_true, decide_false, peekO_a, apPkO_i, frz_wo, frz_wv, frz_kk, wipeG_nil, wipeG_cons, orB_s, orB_t, orB_f, andB_s, andB_t, andB_f, orV_s, orV_t, orV_f, andV_s, andV_t, andV_f, apOr_b, apAnd_b, apOrV_b, apAndV_b, apCh_b, Zc.cut_from, Zc.cut_to, in_l, in_t, in_pr, eq_op_op, eq_op_pr, eq_pr_op, eq_pr_pr, ne_op_op, ne_op_pr, ne_pr_op, ne_pr_pr, isnt_op, is_op, pr_0, pr_1, st_0, st_1, inP_pr, ninP_pr, nin_l, isi_prt, len_pr, op_some, prD_eq, ix_lit2, ix_lit3, ix_lit4, ix_lit5, ix_lit6, ix_lit7, ix_lit8, ix_lit9, ix_lit10, ix_lit11, ix_lit12, ix_lit13, ix_lit14, ix_lit15, setI_i, setI_p, setI_o, setI_n, snoc_i, snoc_r, snoc_p, snoc_n, snoc_o, snoc_pp, snoc_s, eq_ol, ne_ol, eq_pl, ne_pl, eq_sl, ne_sl, eq_il, ne_il, eq_rl, ne_rl, eq_il1, isi_bb, eq_bb, ne_bb, eq_self, lit, dM1_a, apM1_S, dM0_a, apM0_S, Bool.not_true, Bool.not_false, dSlS_w, apSl_s, Int.reduceBEq, Rk.is_tn, Rk.is_nn, isi_st, isi_stt, isi_is, isi_itt, isi_ts, Rk.isi_tt, Rk.isi_call, neg1, dAddO1, apAddO_l, addOL1, apAddL_l, addL_l, eq_picture_erase, eq_picture_picture, eq_picture_put, eq_picture_cap, eq_put_erase, eq_put_picture, eq_put_put, eq_put_cap, eq_erase_erase, eq_erase_picture, eq_erase_put, eq_erase_cap, eq_deal_erase, eq_deal_picture, eq_deal_put, eq_deal_cap, eq_cap_erase, eq_cap_picture, eq_cap_put, eq_cap_cap, ix2_0, ix2_1, ix2_m, ix3_0, ix3_1, ix3_2, ix3_m, ix4_0, ix4_1, ix4_2, ix4_3, ix4_m])
local macro_rules | `(tactic| walk_at "zf") => `(tactic| first | (walk_at "zz"; done) | (walk_at "zz"; rfl) | rfl)
local macro_rules | `(tactic| walk_at "lc") => `(tactic| ((case hf => rfl); (case hi => first | (walk_at "zz"; done) | (walk_at "zz"; rfl) | rfl); (case hl => walk_at "zd"); (case h => (intro a ha; refine ⟨_, dName_ok rfl, ?_, fun hT => ?_⟩ <;> walk_at "zz" <;> rfl))))
local macro_rules | `(tactic| walk_at "lm") => `(tactic| ((case hf => rfl); (case hi => first | (walk_at "zz"; done) | (walk_at "zz"; rfl) | rfl); (case hl => walk_at "zd"); (case h => (intro a ha; refine ⟨_, dName_ok rfl, ?_⟩; walk_at "zz"; rfl))))
def isPic : Rec → Bool
  | .pic _ _ _ => true
  | _ => false
theorem iL_rng (c : Nat) (f : Nat → Int) : (List.range c).map (fun i => D.int (f i)) = iL ((List.range c).map f) := by
  unfold iL
  rw [List.map_map]
  rfl
def szs : List Int := [5, 4, 4, 4, 3, 900, 90, 3, 900, 5, 5, 5, 5, 4, 40]
theorem es_ok {es : List (Int × Int × Int)} {c : Nat} {f g h : Nat → Int} (e : es = (List.range c).map fun i => (f i, g i, h i)) (h0 : ∀ i, 0 < f i) (h1 : ∀ i j, i < j → f i < f j) (h2 : ∀ i, i < c → f i < 10000 ∧ 0 ≤ g i ∧ g i < h i ∧ h i < 10000) : EsOk es := by
  subst e
  refine ⟨fun e m => ?_, ?_⟩
  · obtain ⟨i, hm, rfl⟩ := List.mem_map.mp m
    obtain ⟨a, b, c, d⟩ := h2 i (List.mem_range.mp hm)
    have := h0 i
    exact ⟨ok4 (Int.le_of_lt this) a, ok4 b (Int.lt_trans c d), ok4 (Int.le_trans b (Int.le_of_lt c)) d, c⟩
  · rw [List.map_map]
    exact rise_rng (f := f) h0 h1 c
theorem wd30 {e : Int × Int × Int} (h1 : 0 ≤ e.1 ∧ e.1 < 10000) (h2 : 0 ≤ e.2.1 ∧ e.2.1 < 10000) (h3 : 0 ≤ e.2.2 ∧ e.2.2 < 10000) : (wdT e).length ≤ 30 := by
  have := num4 h1.1 h1.2
  have := joinN4 (ns := [e.2.1, e.2.2]) fun x m => by rcases List.mem_cons.mp m with z | z; rw [z]; exact h2; rw [List.mem_singleton.mp z]; exact h3
  unfold wdT
  simp at this ⊢
  omega
def fE (ds : List Int) (k : Int) (i : Nat) : Int × Int × Int := (1 + at_ ds (k + 8) + (i : Int) * (at_ ds (k + 6) + 1), at_ ds (k + 9 + 2 * (i : Int)), at_ ds (k + 9 + 2 * (i : Int)) + 1 + at_ ds (k + 10 + 2 * (i : Int)))
structure EsSm (es : List (Int × Int × Int)) : Prop where
  ok : EsOk es
  c : es.length ≤ 2
  w : ∀ w ∈ [47] :: es.map wdT, w.length ≤ 30
structure NmSm (n : L × List Int) : Prop where
  ok : NmOk n
  w : (nmT n).length ≤ 30
theorem nm_sm {w : L} {ns : List Int} (h : isName w = true) (h1 : ns.length ≤ 3) (h2 : ∀ x ∈ ns, 0 ≤ x ∧ x < 10000) (h3 : riseL ltI (0 :: ns) = true) : NmSm (w, ns) := by
  refine ⟨⟨h, fun x m => ok4 (h2 x m).1 (h2 x m).2, h3⟩, ?_⟩
  have e1 := joinN4 h2
  unfold isName at h
  rw [Bool.and_eq_true, Bool.and_eq_true, decide_eq_true_eq, decide_eq_true_eq] at h
  show (w ++ 61 :: joinN ns).length ≤ 30
  rw [List.length_append, List.length_cons]
  omega
theorem pic_sm {caps : List Int} {ns : List (L × List Int)} {es : List (Int × Int × Int)} (h0 : caps ≠ []) (h1 : caps.length ≤ 4) (h2 : ∀ x ∈ caps, 0 ≤ x ∧ x < 10000) (h3 : ns.length ≤ 2) (h4 : ∀ n ∈ ns, NmSm n) (h5 : riseL ltS (ns.map (·.1)) = true) (h6 : EsSm es) : RecSm (.pic caps ns es) := by
  refine ⟨⟨h0, fun x m => ok4 (h2 x m).1 (h2 x m).2, fun n m => (h4 n m).ok, h5, h6.ok⟩, sm_len ?_ fun w m => ?_⟩
  · have := h6.c
    simp [Rk.wordsOf]
    omega
  · rcases List.mem_cons.mp m with z | z
    · rw [z]; decide
    rcases List.mem_cons.mp z with z | z
    · rw [z]; have := joinN4 h2; omega
    rcases List.mem_append.mp z with z | z
    · obtain ⟨n, hn, rfl⟩ := List.mem_map.mp z
      exact (h4 n hn).w
    · exact h6.w w z
theorem put_sm {w : L} {ns : List Int} {es : List (Int × Int × Int)} (h : NmSm (w, ns)) (h6 : EsSm es) : RecSm (.put w ns es) := by
  refine ⟨⟨h.ok, h6.ok⟩, sm_len ?_ fun w m => ?_⟩
  · have := h6.c
    simp [Rk.wordsOf]
    omega
  · rcases List.mem_cons.mp m with z | z
    · rw [z]; decide
    rcases List.mem_cons.mp z with z | z
    · rw [z]; exact h.w
    · exact h6.w _ z
theorem era_sm {w : L} (h : isName w = true) : RecSm (.era w) := by
  refine ⟨h, sm_len (by simp [Rk.wordsOf]) fun x m => ?_⟩
  rcases List.mem_cons.mp m with z | z
  · rw [z]; decide
  · rw [List.mem_singleton.mp z]
    unfold isName at h
    rw [Bool.and_eq_true, Bool.and_eq_true, decide_eq_true_eq, decide_eq_true_eq] at h
    omega
theorem deal_sm {es : List (Int × Int × Int)} (h6 : EsSm es) : RecSm (.deal es) := by
  refine ⟨h6.ok, sm_len ?_ fun w m => ?_⟩
  · have := h6.c
    simp [Rk.wordsOf]
    omega
  · rcases List.mem_cons.mp m with z | z
    · rw [z]; decide
    · exact h6.w _ z
theorem cap_sm {s c : Int} {es : List (Int × Int × Int)} (h1 : 0 ≤ s ∧ s < 10000) (h2 : 0 ≤ c ∧ c < 10000) (h6 : EsSm es) : RecSm (.cap s c es) := by
  refine ⟨⟨ok4 h1.1 h1.2, ok4 h2.1 h2.2, h6.ok⟩, sm_len ?_ fun w m => ?_⟩
  · have := h6.c
    simp [Rk.wordsOf]
    omega
  · rcases List.mem_cons.mp m with z | z
    · rw [z]; decide
    rcases List.mem_cons.mp z with z | z
    · rw [z]; have := num4 h1.1 h1.2; omega
    rcases List.mem_cons.mp z with z | z
    · rw [z]; have := num4 h2.1 h2.2; omega
    · exact h6.w _ z
theorem small_spec {ds : List Int} {k : Int} {b : Bool} {W : Ws} (hk : 0 ≤ k) (hl : k + 15 ≤ ds.length) (B : ∀ j : Nat, j < 15 → 0 ≤ at_ ds (k + (j : Int)) ∧ at_ ds (k + (j : Int)) < at_ szs (j : Int)) (hW : W.length = 4) (hn : ∀ w ∈ W, isName w = true) :
    ∃ r, g_law_small [.lst (iL ds), .int k, .bl b, .lst (W.map dS)] = some (.v (recD r)) ∧ RecSm r ∧ isPic r = b := by
  have b0 : 0 ≤ at_ ds (k + 0) ∧ at_ ds (k + 0) < 5 := B 0 (by omega)
  rw [Int.add_zero] at b0
  have b1 : 0 ≤ at_ ds (k + 1) ∧ at_ ds (k + 1) < 4 := B 1 (by omega)
  have b2 : 0 ≤ at_ ds (k + 2) ∧ at_ ds (k + 2) < 4 := B 2 (by omega)
  have b3 : 0 ≤ at_ ds (k + 3) ∧ at_ ds (k + 3) < 4 := B 3 (by omega)
  have b4 : 0 ≤ at_ ds (k + 4) ∧ at_ ds (k + 4) < 3 := B 4 (by omega)
  have b5 : 0 ≤ at_ ds (k + 5) ∧ at_ ds (k + 5) < 900 := B 5 (by omega)
  have b6 : 0 ≤ at_ ds (k + 6) ∧ at_ ds (k + 6) < 90 := B 6 (by omega)
  have b7 : 0 ≤ at_ ds (k + 7) ∧ at_ ds (k + 7) < 3 := B 7 (by omega)
  have b8 : 0 ≤ at_ ds (k + 8) ∧ at_ ds (k + 8) < 900 := B 8 (by omega)
  have b13 : 0 ≤ at_ ds (k + 13) ∧ at_ ds (k + 13) < 4 := B 13 (by omega)
  have b14 : 0 ≤ at_ ds (k + 14) ∧ at_ ds (k + 14) < 40 := B 14 (by omega)
  have b9 : ∀ i : Nat, i < 2 → (0 ≤ at_ ds (k + 9 + 2 * (i : Int)) ∧ at_ ds (k + 9 + 2 * (i : Int)) < 5) ∧ 0 ≤ at_ ds (k + 10 + 2 * (i : Int)) ∧ at_ ds (k + 10 + 2 * (i : Int)) < 5 := fun i hi => by
    match i, hi with
    | 0, _ => exact ⟨by have := B 9 (by omega); rw [show k + 9 + 2 * ((0 : Nat) : Int) = k + ((9 : Nat) : Int) by omega]; exact this, by have := B 10 (by omega); rw [show k + 10 + 2 * ((0 : Nat) : Int) = k + ((10 : Nat) : Int) by omega]; exact this⟩
    | 1, _ => exact ⟨by have := B 11 (by omega); rw [show k + 9 + 2 * ((1 : Nat) : Int) = k + ((11 : Nat) : Int) by omega]; exact this, by have := B 12 (by omega); rw [show k + 10 + 2 * ((1 : Nat) : Int) = k + ((12 : Nat) : Int) by omega]; exact this⟩
  obtain ⟨c3, e3, h3⟩ : ∃ c : Nat, at_ ds (k + 3) = (c : Int) ∧ c < 4 := ⟨(at_ ds (k + 3)).toNat, by omega, by omega⟩
  obtain ⟨c4, e4, h4⟩ : ∃ c : Nat, at_ ds (k + 4) = (c : Int) ∧ c < 3 := ⟨(at_ ds (k + 4)).toNat, by omega, by omega⟩
  obtain ⟨c7, e7, h7⟩ : ∃ c : Nat, at_ ds (k + 7) = (c : Int) ∧ c < 3 := ⟨(at_ ds (k + 7)).toNat, by omega, by omega⟩
  obtain ⟨c13, e13, h13⟩ : ∃ c : Nat, at_ ds (k + 13) + 1 = (c : Int) ∧ 1 ≤ c ∧ c < 5 := ⟨(at_ ds (k + 13) + 1).toNat, by omega, by omega⟩
  have hw1 : isName (at_ W (at_ ds (k + 1))) = true := hn _ (at_mem b1.1 (by omega))
  have hw2 : isName (at_ W (at_ ds (k + 2))) = true := hn _ (at_mem b2.1 (by omega))
  unfold g_law_small t_law_small
  walk_at "zz"
  rewrite [dLc_rngM (n := c3) (F := fun i => D.int (1 + at_ ds (k + 5) + (i : Int) * (at_ ds (k + 6) + 1)))]
  case hf => rfl
  case hi =>
    walk_at "zz"
    rw [e3]
    walk_at "zz"
  case hl => omega
  case h =>
    intro i hi
    refine ⟨_, dName_ok rfl, ?_⟩
    walk_at "zz"
  walk_at "zz"
  rewrite [dLc_rngM (n := c4) (F := fun i => D.int (2 + at_ ds (k + 6) + 3 * (i : Int)))]
  case hf => rfl
  case hi =>
    walk_at "zz"
    rw [e4]
    walk_at "zz"
  case hl => omega
  case h =>
    intro i hi
    refine ⟨_, dName_ok rfl, ?_⟩
    walk_at "zz"
  walk_at "zz"
  rw [e7, iL_rng, iL_rng]
  walk_at "zz"
  generalize hnums : ((List.range c3).map fun i : Nat => 1 + at_ ds (k + 5) + (i : Int) * (at_ ds (k + 6) + 1)) = nums
  generalize hoth : ((List.range c4).map fun i : Nat => 2 + at_ ds (k + 6) + 3 * (i : Int)) = oth
  refine rng_then (C := fun o => ∃ r, outW o = some (.v (recD r)) ∧ RecSm r ∧ isPic r = b) (fun i g => ∃ k7 k8 : Option D, g = [some (.v (.lst (iL ds))), some (.v (.int k)), some (.v (.bl b)), some (.v (.lst (W.map dS))), some (.v (.tup (iL nums))), some (.v (.tup (iL oth))), some (.o (.lst (((List.range i).map (fE ds k)).map wdD))), k7.map Wd.v, k8.map Wd.v, none, none, none, none]) ?_ ?_ ?_ ?_
  · exact ⟨none, none, rfl⟩
  · rintro i g ⟨k7, k8, rfl⟩
    cases k7 <;> rfl
  · rintro i g hi ⟨k7, k8, rfl⟩
    have q9 := b9 i (by omega)
    show StepTo (sSeq _ _ [some (.v (.lst (iL ds))), some (.v (.int k)), some (.v (.bl b)), some (.v (.lst (W.map dS))), some (.v (.tup (iL nums))), some (.v (.tup (iL oth))), some (.o (.lst (((List.range i).map (fE ds k)).map wdD))), some (.v (.int (i : Int))), k8.map Wd.v, none, none, none, none]) _
    have hlen : (((List.range i).map (fE ds k)).map wdD).length + 1 ≤ 100000 := by
      rw [List.length_map, List.length_map, List.length_range]
      omega
    have eV : ((List.range i).map (fE ds k)).map wdD ++ [wdD (fE ds k i)] = ((List.range (i + 1)).map (fE ds k)).map wdD := by
      rw [List.range_succ]
      simp
    rw [← eV]
    generalize ((List.range i).map (fE ds k)).map wdD = V at hlen ⊢
    walk_at "zz"
    exact step_nx ⟨some (.int (i : Int)), some (.int (at_ ds (k + 9 + 2 * (i : Int)))), rfl⟩
  · rintro g ⟨k7, k8, rfl⟩
    have hE : EsSm ((List.range c7).map (fE ds k)) := by
      have hb : ∀ i, i < c7 → (1 + at_ ds (k + 8) + (i : Int) * (at_ ds (k + 6) + 1) < 10000) ∧ 0 ≤ at_ ds (k + 9 + 2 * (i : Int)) ∧ at_ ds (k + 9 + 2 * (i : Int)) < at_ ds (k + 9 + 2 * (i : Int)) + 1 + at_ ds (k + 10 + 2 * (i : Int)) ∧ at_ ds (k + 9 + 2 * (i : Int)) + 1 + at_ ds (k + 10 + 2 * (i : Int)) < 10000 := fun i hi => by
        have q := b9 i (by omega)
        have : i = 0 ∨ i = 1 := by omega
        rcases this with rfl | rfl
        · omega
        · omega
      have hpos : ∀ i : Nat, 0 < 1 + at_ ds (k + 8) + (i : Int) * (at_ ds (k + 6) + 1) := fun i => by
        have : 0 ≤ (i : Int) * (at_ ds (k + 6) + 1) := Int.mul_nonneg (by omega) (by omega)
        omega
      refine ⟨es_ok (f := fun i => 1 + at_ ds (k + 8) + (i : Int) * (at_ ds (k + 6) + 1)) (g := fun i => at_ ds (k + 9 + 2 * (i : Int))) (h := fun i => at_ ds (k + 9 + 2 * (i : Int)) + 1 + at_ ds (k + 10 + 2 * (i : Int))) (c := c7) rfl hpos (fun i j hij => ?_) hb, by rw [List.length_map, List.length_range]; omega, fun w m => ?_⟩
      · have : (i : Int) * (at_ ds (k + 6) + 1) < (j : Int) * (at_ ds (k + 6) + 1) := Int.mul_lt_mul_of_pos_right (by omega) (by omega)
        show 1 + at_ ds (k + 8) + (i : Int) * (at_ ds (k + 6) + 1) < 1 + at_ ds (k + 8) + (j : Int) * (at_ ds (k + 6) + 1)
        omega
      · rcases List.mem_cons.mp m with z | z
        · rw [z]; decide
        · obtain ⟨e, hm, rfl⟩ := List.mem_map.mp z
          obtain ⟨i, hm2, rfl⟩ := List.mem_map.mp hm
          obtain ⟨q1, q2, q3, q4⟩ := hb i (List.mem_range.mp hm2)
          have := hpos i
          exact wd30 ⟨Int.le_of_lt this, q1⟩ ⟨q2, Int.lt_trans q3 q4⟩ ⟨Int.le_trans q2 (Int.le_of_lt q3), q4⟩
    generalize (List.range c7).map (fE ds k) = es at hE ⊢
    have hN : ∀ {w : L}, isName w = true → NmSm (w, nums) := fun hw => by
      subst hnums
      have hpos : ∀ i : Nat, 0 < 1 + at_ ds (k + 5) + (i : Int) * (at_ ds (k + 6) + 1) := fun i => by
        have : 0 ≤ (i : Int) * (at_ ds (k + 6) + 1) := Int.mul_nonneg (by omega) (by omega)
        omega
      refine nm_sm hw (by rw [List.length_map, List.length_range]; omega) (fun x m => ?_) (rise_rng (f := fun i => 1 + at_ ds (k + 5) + (i : Int) * (at_ ds (k + 6) + 1)) hpos (fun i j hij => ?_) c3)
      · obtain ⟨i, hm, rfl⟩ := List.mem_map.mp m
        have hi := List.mem_range.mp hm
        have := hpos i
        refine ⟨Int.le_of_lt this, ?_⟩
        have : i = 0 ∨ i = 1 ∨ i = 2 := by omega
        rcases this with rfl | rfl | rfl <;> omega
      · have : (i : Int) * (at_ ds (k + 6) + 1) < (j : Int) * (at_ ds (k + 6) + 1) := Int.mul_lt_mul_of_pos_right (by omega) (by omega)
        show 1 + at_ ds (k + 5) + (i : Int) * (at_ ds (k + 6) + 1) < 1 + at_ ds (k + 5) + (j : Int) * (at_ ds (k + 6) + 1)
        omega
    have hO : ∀ {w : L}, isName w = true → NmSm (w, oth) := fun hw => by
      subst hoth
      refine nm_sm hw (by rw [List.length_map, List.length_range]; omega) (fun x m => ?_) (rise_rng (f := fun i => 2 + at_ ds (k + 6) + 3 * (i : Int)) (fun i => by omega) (fun i j hij => by omega) c4)
      obtain ⟨i, hm, rfl⟩ := List.mem_map.mp m
      have hi := List.mem_range.mp hm
      show 0 ≤ 2 + at_ ds (k + 6) + 3 * (i : Int) ∧ 2 + at_ ds (k + 6) + 3 * (i : Int) < 10000
      omega
    walk_at "zz"
    generalize at_ W (at_ ds (k + 1)) = w1 at hw1 ⊢
    generalize at_ W (at_ ds (k + 2)) = w2 at hw2 ⊢
    have a1 := okW_asc (okW_name hw1)
    have a2 := okW_asc (okW_name hw2)
    cases b with
    | false =>
      walk_at "zz"
      by_cases q2 : at_ ds k < 2
      · rw [decide_eq_true q2]
        walk_at "zz"
        exact ⟨.put w1 nums es, rfl, put_sm (hN hw1) hE, rfl⟩
      rw [decide_eq_false q2]
      walk_at "zz"
      by_cases q3 : at_ ds k = 2
      · rw [q3]
        walk_at "zz"
        exact ⟨.era w1, rfl, era_sm hw1, rfl⟩
      rw [show (at_ ds k == 2) = false from beq_eq_false_iff_ne.mpr q3]
      walk_at "zz"
      by_cases q4 : at_ ds k = 3
      · rw [q4]
        walk_at "zz"
        exact ⟨.deal es, rfl, deal_sm hE, rfl⟩
      rw [show (at_ ds k == 3) = false from beq_eq_false_iff_ne.mpr q4]
      walk_at "zz"
      exact ⟨.cap (at_ ds (k + 13)) (at_ ds (k + 14)) es, rfl, cap_sm (by omega) (by omega) hE, rfl⟩
    | true =>
      walk_at "zz"
      rewrite [dLc_rngM (n := c13) (F := fun i => D.int ((at_ ds (k + 14) + 13 * (i : Int)) % 41))]
      case hf => cases k7 <;> rfl
      case hi =>
        walk_at "zz"
        rw [e13]
        walk_at "zz"
      case hl => omega
      case h =>
        intro i hi
        refine ⟨_, dName_ok rfl, ?_⟩
        walk_at "zz"
      walk_at "zz"
      rw [iL_rng c13 fun i : Nat => (at_ ds (k + 14) + 13 * (i : Int)) % 41, e3]
      have hC : (List.range c13).map (fun i : Nat => (at_ ds (k + 14) + 13 * (i : Int)) % 41) ≠ [] := fun z => by
        have := congrArg List.length z
        rw [List.length_map, List.length_range] at this
        simp at this
        omega
      have hCl : ((List.range c13).map (fun i : Nat => (at_ ds (k + 14) + 13 * (i : Int)) % 41)).length ≤ 4 := by
        rw [List.length_map, List.length_range]
        omega
      have hCb : ∀ x ∈ (List.range c13).map (fun i : Nat => (at_ ds (k + 14) + 13 * (i : Int)) % 41), 0 ≤ x ∧ x < 10000 := fun x m => by
        obtain ⟨i, hm, rfl⟩ := List.mem_map.mp m
        show 0 ≤ (at_ ds (k + 14) + 13 * (i : Int)) % 41 ∧ (at_ ds (k + 14) + 13 * (i : Int)) % 41 < 10000
        omega
      generalize (List.range c13).map (fun i : Nat => (at_ ds (k + 14) + 13 * (i : Int)) % 41) = caps at hC hCl hCb ⊢
      by_cases q0 : c3 = 0
      · rw [decide_eq_false (show ¬ (0 : Int) < (c3 : Int) by omega)]
        walk_at "zz"
        rw [e3, decide_eq_false (show ¬ (1 : Int) < (c3 : Int) by omega)]
        walk_at "zz"
        exact ⟨.pic caps [] es, rfl, pic_sm hC hCl hCb (by simp) (fun n m => by cases m) rfl hE, rfl⟩
      rw [decide_eq_true (show (0 : Int) < (c3 : Int) by omega)]
      walk_at "zz"
      rw [e3]
      have one : ∃ r, some (Wd.v (D.tup [dS (codes "picture"), D.tup (iL caps), D.tup [D.tup [dS w1, D.tup (iL nums)]], D.tup (es.map wdD)])) = some (Wd.v (recD r)) ∧ RecSm r ∧ isPic r = true :=
        ⟨.pic caps [(w1, nums)] es, rfl, pic_sm hC hCl hCb (by simp) (fun n m => by rw [List.mem_singleton.mp m]; exact hN hw1) rfl hE, rfl⟩
      by_cases q1 : c3 = 1
      · rw [decide_eq_false (show ¬ (1 : Int) < (c3 : Int) by omega)]
        walk_at "zz"
        exact one
      rw [decide_eq_true (show (1 : Int) < (c3 : Int) by omega)]
      walk_at "zz"
      rw [ne_S a1 a2]
      by_cases qw : w1 = w2
      · rw [decide_eq_true qw]
        walk_at "zz"
        exact one
      rw [decide_eq_false qw]
      walk_at "zz"
      obtain ⟨ns, s1, s2, s3⟩ := sort_nm (a := (w1, nums)) (b := (w2, oth)) qw
      have s1 : Zrb.sortDatD [.lst [.tup [dS w1, .tup (iL nums)], .tup [dS w2, .tup (iL oth)]]] = some (.lst (ns.map nmD)) := s1
      rw [s1]
      walk_at "zz"
      refine ⟨.pic caps ns es, rfl, pic_sm hC hCl hCb ?_ (fun n m => ?_) s3 hE, rfl⟩
      · rcases s2 with z | z <;> rw [z] <;> simp
      · have : n = (w1, nums) ∨ n = (w2, oth) := by
          rcases s2 with z | z <;> rw [z] at m <;> simp only [List.mem_cons, List.not_mem_nil, or_false] at m
          · exact m
          · exact m.symm
        rcases this with z | z
        · rw [z]; exact hN hw1
        · rw [z]; exact hO hw2
end Y
end

section
set_option Elab.async false
set_option linter.all false
set_option maxRecDepth 100000
set_option maxHeartbeats 4000000
/-! The law's strings. -/
namespace Y
open L2 Zk Zc Zj Rk
open PySem hiding wordsOf
theorem e_law_sign : g_law_sign = Rk.g_law_sign := rfl
theorem e_law_names : g_law_names = Rk.g_law_names := rfl
theorem take_S {a : L} {n : Nat} (h : a.length ≤ 100000) : slSD (dS a) none (some (n : Int)) = some (dS (a.take n)) := by
  rw [sl_to h (by omega), Int.toNat_natCast]
theorem drop_S {a : L} {n : Nat} (h : a.length ≤ 100000) : slSD (dS a) (some (n : Int)) none = some (dS (a.drop n)) := by
  rw [sl_from h (by omega), Int.toNat_natCast]
theorem scall : apCall 0 g_law_sizes (some []) = some (.lst [.int 5, .int 4, .int 4, .int 4, .int 3, .int 900, .int 90, .int 3, .int 900, .int 5, .int 5, .int 5, .int 5, .int 4, .int 40]) := (rfl)
def others : Ws := [[], codes ";", codes "picture", codes "picture ;", codes "picture /;", codes "picture 1,1 /", codes "picture 1,1 / ;", codes "erase", codes "erase ;", codes "x", codes "erase A;", codes "erase a", codes "deal;", codes "put a= /", codes "put a=1,1 /;", codes "cap 0 /;"]
theorem others_ok : ∀ t ∈ others, (rdRec t).isNone = true ∧ asc t = true ∧ t.length ≤ 640 := by decide +kernel
theorem is_nS (a : L) : isD (dS a) .non = some (.bl false) := rfl
theorem isnt_nS (a : L) : isntD (dS a) .non = some (.bl true) := rfl
theorem isnt_nn : isntD .non .non = some (.bl false) := rfl
local macro_rules | `(tactic| walk_at "zs") => `(tactic| simp only [beq_self_eq_true, Bool.or_false, Bool.false_or, Bool.true_or, Bool.or_true, Bool.and_false, Bool.false_and, Bool.true_and, Bool.and_true, Zc.isi_ii, Zc.isi_ib, Zc.isi_tt, Zc.isi_ll, Zc.rowsT_len, Zc.rowsL_len, Zc.is_integer_call, Zc.ix_p0, Zc.ix_p1, dgTup2_a, dgTup3_a, Bool.not_true, Bool.not_false, mul_lz, List.flatten_cons, List.flatten_nil, Int.reduceToNat, add_ll, pow10_12, pow10_18, pow10_39, pow10_41, pow10_59, pow10_60, mkLst_some, mkTup_some, List.length_cons, List.length_nil, Nat.zero_le, Nat.reduceAdd, Nat.reduceLeDiff, call1, callO1, call2, callO2, call3, callO3, call4, callO4, call5, callO5, call6, callO6, ap1_some, ap2_some, apN_some, apC_some, d1_a, d2_a, dN_a, aNil_a, aCons_a, dC_a, dVar_z, dVar_s, tDt_a, apAnd_t, apAnd_f, apOr_t, apOr_f, dAndT_a, dOrT_a, apNot_some, dNotT_a, apAndV_t, apAndV_f, dAndV_a, apOrV_t, apOrV_f, dOrV_a, apIf_t, apIf_f, dIf_a, apCh_t, apCh_f, apChain_some, dChain_a, apSeq_nx, apSeq_rt, apSeq_ct, apSeq_bk, sSeq_a, apIfS_t, apIfS_f, sIf_a, sNext_a, sCont_a, sBreak_a, apRet_some, sRet_a, apRetO_some, sRetO_a, sRetN_a, getO_z, getO_s, apRetV_some, sRetV_a, ltB_z, ltB_s, okSlot_s, apAsg_some, sAsg_a, dName_ok, apG_some, dgCons_a, dgNil_a, apAsgO_some, sAsgO_a, sApp_a, sSetI_a, apFor_some, sFor_a, dItems_a, dRng1_a, dRng2_a, apEn_some, apEn_tup, dEnum_a, sFrz_a, frzs_nil, frzs_cons, frzI_o, frzI_v, frzI_n, frzI_s, frz1_s, frzAll_nil, frzAll_o, frzAll_v, frzAll_n, peekT_a, apPk_int, apPk_bl, apPk_str, apPk_non, peekF_a, dCall_a, toO_o, dCallO_a, dMake_a, Wd_v, Wd_o, dSl_a, apSl_some, oNone_a, oSome_a, apO_some, add_ii, sub_ii, lt_ii, le_ii, gt_ii, ge_ii, eq_ii, ne_ii, neg_i, not_b, bl_b, tru_b, tru_i, tru_l, tru_t, tru_n, len_l, len_t, len_scr, abs_i, int_i, list_l, list_t, tuple_l, tuple_t, min_ii, max_ii, rev_l, items_l, items_t, iL_len, run_a, outW_rt, outW_nx, List.map_cons, List.map_nil, List.replicate, List.append_nil, List.cons_append, List.nil_append, List.set_cons_zero, List.set_cons_succ, Option.map_some])
local macro_rules | `(tactic| walk_at "zd") => `(tactic| first | ((with_reducible show okSlot _ _ = true); simp only [okSlot_s, ltB_z, ltB_s]; done) | omega | assumption | decide | (simp only [List.length_map, List.length_append, List.length_cons, List.length_nil, List.length_range, List.length_set, List.length_reverse, iL_len, Zc.rowsT_len, Zc.rowsL_len] at *; omega))
local macro_rules | `(tactic| walk_at "zz") => `(tactic| simp (disch := walk_at "zd") only [dgTup2_a, dgTup3_a, Bool.not_true, Bool.not_false, mul_lz, List.flatten_cons, List.flatten_nil, Int.reduceToNat, add_ll, pow10_12, pow10_18, pow10_39, pow10_41, pow10_59, pow10_60, mkLst_some, mkTup_some, List.length_cons, List.length_nil, Nat.zero_le, Nat.reduceAdd, Nat.reduceLeDiff, call1, callO1, call2, callO2, call3, callO3, call4, callO4, call5, callO5, call6, callO6, ap1_some, ap2_some, apN_some, apC_some, d1_a, d2_a, dN_a, aNil_a, aCons_a, dC_a, dVar_z, dVar_s, tDt_a, apAnd_t, apAnd_f, apOr_t, apOr_f, dAndT_a, dOrT_a, apNot_some, dNotT_a, apAndV_t, apAndV_f, dAndV_a, apOrV_t, apOrV_f, dOrV_a, apIf_t, apIf_f, dIf_a, apCh_t, apCh_f, apChain_some, dChain_a, apSeq_nx, apSeq_rt, apSeq_ct, apSeq_bk, sSeq_a, apIfS_t, apIfS_f, sIf_a, sNext_a, sCont_a, sBreak_a, apRet_some, sRet_a, apRetO_some, sRetO_a, sRetN_a, getO_z, getO_s, apRetV_some, sRetV_a, ltB_z, ltB_s, okSlot_s, apAsg_some, sAsg_a, dName_ok, apG_some, dgCons_a, dgNil_a, apAsgO_some, sAsgO_a, sApp_a, sSetI_a, apFor_some, sFor_a, dItems_a, dRng1_a, dRng2_a, apEn_some, apEn_tup, dEnum_a, sFrz_a, frzs_nil, frzs_cons, frzI_o, frzI_v, frzI_n, frzI_s, frz1_s, frzAll_nil, frzAll_o, frzAll_v, frzAll_n, peekT_a, apPk_int, apPk_bl, apPk_str, apPk_non, peekF_a, dCall_a, toO_o, dCallO_a, dMake_a, Wd_v, Wd_o, dSl_a, apSl_some, oNone_a, oSome_a, apO_some, add_ii, sub_ii, lt_ii, le_ii, gt_ii, ge_ii, eq_ii, ne_ii, neg_i, not_b, bl_b, tru_b, tru_i, tru_l, tru_t, tru_n, len_l, len_t, len_scr, abs_i, int_i, list_l, list_t, tuple_l, tuple_t, min_ii, max_ii, rev_l, items_l, items_t, iL_len, run_a, outW_rt, outW_nx, List.map_cons, List.map_nil, List.replicate, List.append_nil, List.cons_append, List.nil_append, List.set_cons_zero, List.set_cons_succ, Option.map_some, Int.reduceAdd, Int.reduceMul, Int.reduceSub, Int.reduceNeg, beq_self_eq_true, Bool.or_false, Bool.false_or, Bool.true_or, Bool.or_true, Bool.and_false, Bool.false_and, Bool.true_and, Bool.and_true, Zc.isi_ii, Zc.isi_ib, Zc.isi_tt, Zc.isi_ll, Zc.rowsT_len, Zc.rowsL_len, Zc.is_integer_call, Zc.ix_p0, Zc.ix_p1, apR1_any, Int.toNat_natCast, apR2_some, mod_ii, fdiv_ii, mul_small, apApp_some, ix_at, ix_atT, ix_atI, ix_atIT, ix_atR, ix_atRT, List.length_map, List.length_append, List.length_range, List.length_set, Option.map_none, Option.map_map, decide_true, decide_false, peekO_a, apPkO_i, frz_wo, frz_wv, frz_kk, wipeG_nil, wipeG_cons, orB_s, orB_t, orB_f, andB_s, andB_t, andB_f, orV_s, orV_t, orV_f, andV_s, andV_t, andV_f, apOr_b, apAnd_b, apOrV_b, apAndV_b, apCh_b, Zc.cut_from, Zc.cut_to, in_l, in_t, in_pr, eq_op_op, eq_op_pr, eq_pr_op, eq_pr_pr, ne_op_op, ne_op_pr, ne_pr_op, ne_pr_pr, isnt_op, is_op, pr_0, pr_1, st_0, st_1, inP_pr, ninP_pr, nin_l, isi_prt, len_pr, op_some, prD_eq, ix_lit2, ix_lit3, ix_lit4, ix_lit5, ix_lit6, ix_lit7, ix_lit8, ix_lit9, ix_lit10, ix_lit11, ix_lit12, ix_lit13, ix_lit14, ix_lit15, setI_i, setI_p, setI_o, setI_n, snoc_i, snoc_r, snoc_p, snoc_n, snoc_o, snoc_pp, snoc_s, eq_ol, ne_ol, eq_pl, ne_pl, eq_sl, ne_sl, eq_il, ne_il, eq_rl, ne_rl, eq_il1, isi_bb, eq_bb, ne_bb, eq_self, lit, dM1_a, apM1_S, dM0_a, apM0_S, Bool.not_true, Bool.not_false, dSlS_w, apSl_s, Int.reduceBEq, Rk.is_tn, Rk.is_nn, isi_st, isi_stt, isi_is, isi_itt, isi_ts, Rk.isi_tt, Rk.isi_call, scall, is_nS, isnt_nS, isnt_nn, neg1, dAddO1, apAddO_l, addOL1, apAddL_l, addL_l, eq_picture_erase, eq_picture_picture, eq_picture_put, eq_picture_cap, eq_put_erase, eq_put_picture, eq_put_put, eq_put_cap, eq_erase_erase, eq_erase_picture, eq_erase_put, eq_erase_cap, eq_deal_erase, eq_deal_picture, eq_deal_put, eq_deal_cap, eq_cap_erase, eq_cap_picture, eq_cap_put, eq_cap_cap, ix2_0, ix2_1, ix2_m, ix3_0, ix3_1, ix3_2, ix3_m, ix4_0, ix4_1, ix4_2, ix4_3, ix4_m])
local macro_rules | `(tactic| walk_at "zf") => `(tactic| first | (walk_at "zz"; done) | (walk_at "zz"; rfl) | rfl)
local macro_rules | `(tactic| walk_at "lc") => `(tactic| ((case hf => rfl); (case hi => first | (walk_at "zz"; done) | (walk_at "zz"; rfl) | rfl); (case hl => walk_at "zd"); (case h => (intro a ha; refine ⟨_, dName_ok rfl, ?_, fun hT => ?_⟩ <;> walk_at "zz" <;> rfl))))
local macro_rules | `(tactic| walk_at "lm") => `(tactic| ((case hf => rfl); (case hi => first | (walk_at "zz"; done) | (walk_at "zz"; rfl) | rfl); (case hl => walk_at "zd"); (case h => (intro a ha; refine ⟨_, dName_ok rfl, ?_⟩; walk_at "zz"; rfl))))
theorem other_spec {p : Int} (h0 : 0 ≤ p) (h : p < 16) : ∃ t, g_law_other [.int p] = some (.v (dS t)) ∧ rdRec t = none ∧ asc t = true ∧ t.length ≤ 640 := by
  unfold g_law_other t_law_other
  walk_at "zz"
  rw [show p % 16 = p from Int.emod_eq_of_lt h0 h]
  have e := ix_at (f := dS) (xs := others) (k := p) h0 (by show p < 16; exact h)
  obtain ⟨q1, q2, q3⟩ := others_ok _ (at_mem (xs := others) h0 (by show p < 16; exact h))
  refine ⟨at_ others p, ?_, Option.isNone_iff_eq_none.mp q1, q2, q3⟩
  show outW (apRet (ixD (.lst (others.map dS)) (.int p))) = _
  rw [e]
  walk_at "zz"
theorem repl_no : ∀ (n : Nat) (l : L), l.length ≤ n → asc l = true → 59 ∉ StrLaws.replL [59] [58] l ∧ (StrLaws.replL [59] [58] l).length = l.length ∧ asc (StrLaws.replL [59] [58] l) = true
  | _, [], _, _ => by
    rw [StrLaws.replL_nil]
    exact ⟨by simp, rfl, rfl⟩
  | 0, c :: r, h, _ => by simp at h
  | n + 1, c :: r, h, ha => by
    have ha2 : asc r = true := by
      unfold asc at ha ⊢
      rw [List.all_cons, Bool.and_eq_true] at ha
      exact ha.2
    have hc : c < 128 := asc_mem ha List.mem_cons_self
    obtain ⟨i1, i2, i3⟩ := repl_no n r (by simp at h; omega) ha2
    by_cases e : c = 59
    · subst e
      rw [StrLaws.replL_hit (by simp) rfl]
      show 59 ∉ 58 :: StrLaws.replL [59] [58] r ∧ (58 :: StrLaws.replL [59] [58] r).length = (59 :: r).length ∧ asc (58 :: StrLaws.replL [59] [58] r) = true
      refine ⟨fun z => ?_, by rw [List.length_cons, List.length_cons, i2], asc_app (a := [58]) (by decide) i3⟩
      rcases List.mem_cons.mp z with z | z
      · exact absurd z (by decide)
      · exact i1 z
    · rw [StrLaws.replL_miss (fun z => e (by simpa using z))]
      refine ⟨fun z => ?_, by rw [List.length_cons, List.length_cons, i2], asc_app (a := [c]) (List.all_eq_true.mpr fun x m => by rw [List.mem_singleton.mp m]; exact decide_eq_true hc) i3⟩
      rcases List.mem_cons.mp z with z | z
      · exact e z.symm
      · exact i1 z
theorem repl_S {l : L} (h : l.length ≤ 100000) : Zra.replD (Str.ofString ";") (Str.ofString ":") (dS l) = some (dS (StrLaws.replL [59] [58] l)) := by
  show (if (SX.S l).length ≤ 100000 ∧ (Str.ofString ":").length ≤ 10 then some (D.str (Txt.replace (SX.S l) (Str.ofString ";") (Str.ofString ":"))) else none) = _
  rw [if_pos ⟨by rw [SX.S_len]; exact h, by decide⟩]
  have e := StrLaws.replace_list (x := SX.S l) (y := Str.ofString ";") (z := Str.ofString ":") (by decide)
  have e2 : D.str (Txt.replace (SX.S l) (Str.ofString ";") (Str.ofString ":")) = dS (Txt.replace (SX.S l) (Str.ofString ";") (Str.ofString ":")).cps.toList := congrArg D.str (SX.S_tl _).symm
  rw [e2, e]
  rfl
theorem rd_no {t : L} (h : 59 ∉ t) : rdRec t = none := by
  unfold rdRec
  rw [cut_free h]
  exact if_neg (fun z => nomatch z)
def Str1 (t : L) (o : Option Rec) : Prop := asc t = true ∧ t.length ≤ 640 ∧ rdRec t = o ∧ ∀ r, o = some r → RecSm r ∧ t = textOf r
theorem str_none {t : L} (ha : asc t = true) (hl : t.length ≤ 640) (h : rdRec t = none) : Str1 t none := ⟨ha, hl, h, fun r e => by cases e⟩
theorem str_some {r : Rec} (h : RecSm r) : Str1 (textOf r) (some r) := ⟨text_asc h.ok, h.len, rd_text h.ok, fun r' e => by cases e; exact ⟨h, rfl⟩⟩
theorem asc_take {a : L} (h : asc a = true) (k : Nat) : asc (a.take k) = true := List.all_eq_true.mpr fun c m => decide_eq_true (asc_mem h (List.mem_of_mem_take m))
theorem asc_drop {a : L} (h : asc a = true) (k : Nat) : asc (a.drop k) = true := List.all_eq_true.mpr fun c m => decide_eq_true (asc_mem h (List.mem_of_mem_drop m))
def blk : SF := (sSeq (sAsg (dC (.str "")) (dName 7))
 (sSeq (sIf (dAndT (tDt blD (d2 eqD (d2 ixD (dVar 3) (dC (.int 3))) (dC (.int 1)))) (dAndT (tDt blD (d2 isntD (dVar 2) (dC .non))) (tDt blD (d2 (Zj.onT Zj.ninTf) (dC (.str ";")) (dVar 2)))))
 (sAsg (dVar 2) (dName 7))
 sNext)
 (sSeq (sAsg (d2 modD (dN intD (aCons (d2 ixD (dVar 3) (dC (.int 1))) aNil)) (dN lenD (aCons (dVar 6) aNil))) (dName 8))
 (sRet (dN mkTup (aCons (d2 addD (Zj.dSlS (dVar 6) oNone (oSome (dVar 8))) (Zj.dSlS (dVar 7) (oSome (dVar 8)) oNone)) (aCons (dC .non) aNil)))))))
theorem seq_assoc {a b c : SF} {g : Gm} : sSeq a (sSeq b c) g = sSeq (sSeq a b) c g := by
  rw [sSeq_a, sSeq_a, sSeq_a]
  cases a g with
  | none => rfl
  | some o => cases o <;> rfl
theorem torn_no {r : Rec} (h : RecSm r) {n : Nat} (hn : n < (textOf r).length) : 59 ∉ (textOf r).take n := by
  unfold textOf at hn ⊢
  rw [List.length_append] at hn
  rw [List.take_append_of_le_length (by simp at hn; omega)]
  exact fun z => body_no h.ok (List.mem_of_mem_take z)
theorem blk_spec {c d b : D} {ds : List Int} {bf : D} {r : Rec} (h : RecSm r) (hdl : ds.length = 25) (b1 : 0 ≤ at_ ds 1) (hb : bf = .non ∨ ∃ b, bf = dS b ∧ asc b = true ∧ b.length ≤ 640) :
    ∃ t, blk [some (.v c), some (.v d), some (.v bf), some (.v (.lst (iL ds))), some (.v b), some (.v (recD r)), some (.v (dS (textOf r))), none, none, none] = some (.rt (.v (.tup [dS t, .non]))) ∧ asc t = true ∧ t.length ≤ 640 ∧ 59 ∉ t := by
  have hlen := h.len
  have hpos : 1 ≤ (textOf r).length := by unfold textOf; rw [List.length_append]; simp
  have hasc := text_asc h.ok
  obtain ⟨n, en, hn⟩ : ∃ n : Nat, at_ ds 1 % ((textOf r).length : Nat) = (n : Int) ∧ n < (textOf r).length := by
    have h1 := Int.emod_nonneg (at_ ds 1) (show (((textOf r).length : Nat) : Int) ≠ 0 by omega)
    have h2 := Int.emod_lt_of_pos (at_ ds 1) (show (0 : Int) < (((textOf r).length : Nat) : Int) by omega)
    exact ⟨(at_ ds 1 % ((textOf r).length : Nat)).toNat, by omega, by omega⟩
  have fin : ∀ old : L, asc old = true → old.length ≤ 640 → 59 ∉ old → ∃ t, (sSeq (sAsg (d2 modD (dN intD (aCons (d2 ixD (dVar 3) (dC (.int 1))) aNil)) (dN lenD (aCons (dVar 6) aNil))) (dName 8)) (sRet (dN mkTup (aCons (d2 addD (dSlS (dVar 6) oNone (oSome (dVar 8))) (dSlS (dVar 7) (oSome (dVar 8)) oNone)) (aCons (dC .non) aNil))))) [some (.v c), some (.v d), some (.v bf), some (.v (.lst (iL ds))), some (.v b), some (.v (recD r)), some (.v (dS (textOf r))), some (.v (dS old)), none, none] = some (.rt (.v (.tup [dS t, .non]))) ∧ asc t = true ∧ t.length ≤ 640 ∧ 59 ∉ t := fun old o1 o2 o3 => by
    refine ⟨(textOf r).take n ++ old.drop n, ?_, asc_app (asc_take hasc n) (asc_drop o1 n), by rw [List.length_append, List.length_take, List.length_drop]; omega, fun z => ?_⟩
    · walk_at "zz"
      rw [len_S (by omega)]
      walk_at "zz"
      rw [en, take_S (by omega), drop_S (by omega)]
      have hl2 : ((textOf r).take n).length + (old.drop n).length ≤ 100000 := by rw [List.length_take, List.length_drop]; omega
      walk_at "zz"
      rw [add_S hl2]
      walk_at "zz"
    · rcases List.mem_append.mp z with z | z
      · exact torn_no h hn z
      · exact o3 (List.mem_of_mem_drop z)
  have hI : ∃ old : L, asc old = true ∧ old.length ≤ 640 ∧ 59 ∉ old ∧ (sSeq (sAsg (dC (.str "")) (dName 7)) (sIf (dAndT (tDt blD (d2 eqD (d2 ixD (dVar 3) (dC (.int 3))) (dC (.int 1)))) (dAndT (tDt blD (d2 isntD (dVar 2) (dC .non))) (tDt blD (d2 (Zj.onT Zj.ninTf) (dC (.str ";")) (dVar 2)))))
 (sAsg (dVar 2) (dName 7))
 sNext)) [some (.v c), some (.v d), some (.v bf), some (.v (.lst (iL ds))), some (.v b), some (.v (recD r)), some (.v (dS (textOf r))), none, none, none] = some (.nx [some (.v c), some (.v d), some (.v bf), some (.v (.lst (iL ds))), some (.v b), some (.v (recD r)), some (.v (dS (textOf r))), some (.v (dS old)), none, none]) := by
    walk_at "zz"
    cases (at_ ds 3 == 1)
    · exact ⟨[], rfl, by simp, by simp, by walk_at "zz"; rfl⟩
    · rcases hb with rfl | ⟨bt, rfl, hb1, hb2⟩
      · exact ⟨[], rfl, by simp, by simp, by walk_at "zz"; rfl⟩
      · by_cases hm : 59 ∈ bt
        · refine ⟨[], rfl, by simp, by simp, ?_⟩
          walk_at "zz"
          rw [cSemi, nin_S, decide_eq_true hm]
          walk_at "zz"
          rfl
        · refine ⟨bt, hb1, hb2, hm, ?_⟩
          walk_at "zz"
          rw [cSemi, nin_S, decide_eq_false hm]
          walk_at "zz"
  obtain ⟨old, o1, o2, o3, o4⟩ := hI
  unfold blk
  rw [seq_assoc, sSeq_a, o4]
  exact fin old o1 o2 o3
def srest : SF := (sSeq (sAsg (dCall 4 (g_law_small) (aCons (dVar 3) (aCons (dC (.int 5)) (aCons (dVar 4) (aCons (dVar 1) aNil))))) (dName 5))
 (sSeq (sAsg (dCall 1 (g_law_text_of) (aCons (dVar 5) aNil)) (dName 6))
 (sSeq (sIf (tDt blD (d2 ltD (d2 ixD (dVar 3) (dC (.int 0))) (dC (.int 10))))
 (sRet (dN mkTup (aCons (dVar 6) (aCons (dVar 5) aNil))))
 sNext)
 (sSeq (sIf (tDt blD (d2 ltD (d2 ixD (dVar 3) (dC (.int 0))) (dC (.int 13))))
 (sSeq (sAsg (dC (.str "")) (dName 7))
 (sSeq (sIf (dAndT (tDt blD (d2 eqD (d2 ixD (dVar 3) (dC (.int 3))) (dC (.int 1)))) (dAndT (tDt blD (d2 isntD (dVar 2) (dC .non))) (tDt blD (d2 (Zj.onT Zj.ninTf) (dC (.str ";")) (dVar 2)))))
 (sAsg (dVar 2) (dName 7))
 sNext)
 (sSeq (sAsg (d2 modD (dN intD (aCons (d2 ixD (dVar 3) (dC (.int 1))) aNil)) (dN lenD (aCons (dVar 6) aNil))) (dName 8))
 (sRet (dN mkTup (aCons (d2 addD (Zj.dSlS (dVar 6) oNone (oSome (dVar 8))) (Zj.dSlS (dVar 7) (oSome (dVar 8)) oNone)) (aCons (dC .non) aNil)))))))
 sNext)
 (sSeq (sIf (tDt blD (d2 eqD (d2 ixD (dVar 3) (dC (.int 0))) (dC (.int 13))))
 (sRet (dN mkTup (aCons (dC (.str "")) (aCons (dC .non) aNil))))
 sNext)
 (sSeq (sIf (tDt blD (d2 eqD (d2 ixD (dVar 3) (dC (.int 0))) (dC (.int 14))))
 (sRet (dN mkTup (aCons (dCall 1 (g_law_other) (aCons (d2 ixD (dVar 3) (dC (.int 4))) aNil)) (aCons (dC .non) aNil))))
 sNext)
 (sRet (dN mkTup (aCons (d1 (Zra.replD (Str.ofString ";") (Str.ofString ":")) (Zj.dM1 Zj.joinD (dC (.str "")) (dLc (dRng1 (aCons (dC (.int 5)) aNil)) (dName 9) dYes (dCall 1 (g_law_sign) (aCons (d2 ixD (dVar 3) (d2 addD (dC (.int 20)) (dVar 9))) aNil)) [9]))) (aCons (dC .non) aNil))))))))))
theorem string_spec (cell : Int) {W : Ws} (hW : W.length = 4) (hn : ∀ w ∈ W, isName w = true) {bf : D} (hb : bf = .non ∨ ∃ b, bf = dS b ∧ asc b = true ∧ b.length ≤ 640) :
    ∃ t o, g_law_string [.int cell, .lst (W.map dS), bf] = some (.v (.tup [dS t, oD recD o])) ∧ Str1 t o := by
  obtain ⟨w, e, ds, rfl, hd⟩ := Zc.draws_spec cell [16, 840, 2, 2, 16, 5, 4, 4, 4, 3, 900, 90, 3, 900, 5, 5, 5, 5, 4, 40, 94, 94, 94, 94, 94] (by intro s hs; simp only [List.mem_cons, List.not_mem_nil, or_false] at hs; omega) (show (25 : Nat) ≤ 1000 by decide)
  have hdl : ds.length = 25 := hd.len
  have b0 := hd.at (k := 0) (s := 16) (by decide) rfl
  have b1 := hd.at (k := 1) (s := 840) (by decide) rfl
  have b4 := hd.at (k := 4) (s := 16) (by decide) rfl
  have B : ∀ j : Nat, j < 15 → 0 ≤ at_ ds (5 + (j : Int)) ∧ at_ ds (5 + (j : Int)) < at_ szs (j : Int) := fun j hj => hd.at (k := 5 + (j : Int)) (s := at_ szs (j : Int)) (by omega) (by
    rw [show (5 + (j : Int)).toNat = 5 + j by omega]
    match j, hj with
    | 0, _ => rfl
    | 1, _ => rfl
    | 2, _ => rfl
    | 3, _ => rfl
    | 4, _ => rfl
    | 5, _ => rfl
    | 6, _ => rfl
    | 7, _ => rfl
    | 8, _ => rfl
    | 9, _ => rfl
    | 10, _ => rfl
    | 11, _ => rfl
    | 12, _ => rfl
    | 13, _ => rfl
    | 14, _ => rfl)
  have B2 : ∀ j : Nat, j < 5 → 0 ≤ at_ ds (20 + (j : Int)) ∧ at_ ds (20 + (j : Int)) < 94 := fun j hj => hd.at (k := 20 + (j : Int)) (s := 94) (by omega) (by
    rw [show (20 + (j : Int)).toNat = 20 + j by omega]
    match j, hj with
    | 0, _ => rfl
    | 1, _ => rfl
    | 2, _ => rfl
    | 3, _ => rfl
    | 4, _ => rfl)
  unfold g_law_string t_law_string
  walk_at "zz"
  rw [show ([.int 16, .int 840, .int 2, .int 2, .int 16, .int 5, .int 4, .int 4, .int 4, .int 3, .int 900, .int 90, .int 3, .int 900, .int 5, .int 5, .int 5, .int 5, .int 4, .int 40, .int 94, .int 94, .int 94, .int 94, .int 94] : List D) = iL [16, 840, 2, 2, 16, 5, 4, 4, 4, 3, 900, 90, 3, 900, 5, 5, 5, 5, 4, 40, 94, 94, 94, 94, 94] from rfl, e_law_draws, e]
  walk_at "zz"
  have key : ∀ b : Bool, ∃ t o, outW (srest [some (.v (.int cell)), some (.v (.lst (W.map dS))), some (.v bf), some (.v (.lst (iL ds))), some (.v (.bl b)), none, none, none, none, none]) = some (.v (.tup [dS t, oD recD o])) ∧ Str1 t o := fun b => by
    unfold srest
    obtain ⟨r, s1, s2, s3⟩ := small_spec (ds := ds) (k := 5) (b := b) (W := W) (by decide) (by omega) B hW hn
    walk_at "zz"
    rw [s1]
    walk_at "zz"
    rw [text_of_spec s2]
    walk_at "zz"
    by_cases q1 : at_ ds 0 < 10
    · rw [decide_eq_true q1]
      walk_at "zz"
      exact ⟨textOf r, some r, rfl, str_some s2⟩
    rw [decide_eq_false q1]
    walk_at "zz"
    by_cases q2 : at_ ds 0 < 13
    · rw [decide_eq_true q2]
      obtain ⟨t, o1, o2, o3, o4⟩ := blk_spec (c := .int cell) (d := .lst (W.map dS)) (b := .bl b) s2 hdl b1.1 hb
      refine ⟨t, none, ?_, str_none o2 o3 (rd_no o4)⟩
      show outW (apSeq (blk [some (.v (.int cell)), some (.v (.lst (W.map dS))), some (.v bf), some (.v (.lst (iL ds))), some (.v (.bl b)), some (.v (recD r)), some (.v (dS (textOf r))), none, none, none]) _) = _
      rw [o1]
      rfl
    rw [decide_eq_false q2]
    walk_at "zz"
    by_cases q3 : at_ ds 0 = 13
    · rw [q3]
      walk_at "zz"
      exact ⟨[], none, rfl, str_none rfl (by simp) (by decide)⟩
    rw [show (at_ ds 0 == 13) = false from beq_eq_false_iff_ne.mpr q3]
    walk_at "zz"
    by_cases q4 : at_ ds 0 = 14
    · rw [q4]
      walk_at "zz"
      obtain ⟨t, o1, o2, o3, o4⟩ := other_spec b4.1 b4.2
      rw [o1]
      walk_at "zz"
      exact ⟨t, none, rfl, str_none o3 o4 o2⟩
    rw [show (at_ ds 0 == 14) = false from beq_eq_false_iff_ne.mpr q4]
    walk_at "zz"
    obtain ⟨l, el, hl, hlP⟩ := join_rng (it := dRng1 (aCons (dC (.int 5)) aNil)) (te := dCall 1 g_law_sign (aCons (d2 ixD (dVar 3) (d2 addD (dC (.int 20)) (dVar 9))) aNil)) (g := [some (.v (.int cell)), some (.v (.lst (W.map dS))), some (.v bf), some (.v (.lst (iL ds))), some (.v (.bl b)), some (.v (recD r)), some (.v (dS (textOf r))), none, none, none]) (n := 5) (m := 9) (by omega) (fun c => c < 128) rfl rfl fun i hi => by
      obtain ⟨c, e, h1, h2⟩ := sign_spec (B2 i hi).1 (B2 i hi).2
      refine ⟨_, c, dName_ok rfl, ?_, h1⟩
      walk_at "zz"
      rw [show (20 + (0 + (i : Int))) = 20 + (i : Int) by omega, e_law_sign, e]
      walk_at "zz"
    rw [el]
    walk_at "zz"
    rw [show SX.S (codes "") = SX.S [] from rfl, join_signs (by omega)]
    walk_at "zz"
    rw [repl_S (by omega)]
    walk_at "zz"
    obtain ⟨r1, r2, r3⟩ := repl_no 5 l (by omega) (List.all_eq_true.mpr fun c m => decide_eq_true (hlP c m))
    exact ⟨_, none, rfl, str_none r3 (by omega) (rd_no r1)⟩
  cases (decide (6 ≤ at_ ds 0) && decide (at_ ds 0 < 10))
  · rcases hb with rfl | ⟨bt, rfl, hb1, hb2⟩
    · walk_at "zz"
      exact key _
    · walk_at "zz"
      exact key _
  · walk_at "zz"
    exact key _
end Y
end

section
set_option Elab.async false
set_option linter.all false
set_option maxRecDepth 100000
set_option maxHeartbeats 4000000
/-! Loops that may return. -/
namespace Rk
open L2 Zk Zc Zj
open PySem hiding wordsOf
theorem loop_find {α : Type} {f : DGF} {s : SF} (enc : α → D) (J : Gm → Prop) (W : α → Option Wd) : ∀ (xs : List α) (g : Gm), J g →
    (∀ a ∈ xs, ∀ g, J g → ∃ g1, f (enc a) g = some g1 ∧ ((W a = none ∧ ∃ g2, s g1 = some (.nx g2) ∧ J g2) ∨ ∃ w, W a = some w ∧ s g1 = some (.rt w))) →
    (xs.findSome? W = none ∧ ∃ g', loopD f s (xs.map enc) g = some (.nx g') ∧ J g') ∨ ∃ w, xs.findSome? W = some w ∧ loopD f s (xs.map enc) g = some (.rt w)
  | [], g, hJ, _ => .inl ⟨rfl, g, rfl, hJ⟩
  | a :: xs, g, hJ, h => by
    obtain ⟨g1, e1, z⟩ := h a List.mem_cons_self g hJ
    have step : loopD f s ((a :: xs).map enc) g = (s g1).bind fun o => match o with
        | .nx g2 => loopD f s (xs.map enc) g2
        | .ct g2 => loopD f s (xs.map enc) g2
        | .bk g2 => some (.nx g2)
        | .rt w => some (.rt w) := by
      rw [List.map_cons]
      conv => lhs; unfold loopD
      rw [e1]
      rfl
    rcases z with ⟨w0, g2, e2, h2⟩ | ⟨w, w1, e2⟩
    · rw [step, e2, List.findSome?_cons, w0]
      exact loop_find enc J W xs g2 h2 fun b hb => h b (List.mem_cons_of_mem _ hb)
    · right
      rw [step, e2, List.findSome?_cons, w1]
      exact ⟨w, rfl, rfl⟩
def FS (o : Option Out) (v : Option Wd) (J : Gm → Prop) : Prop := (v = none ∧ ∃ g2, o = some (.nx g2) ∧ J g2) ∨ ∃ w, v = some w ∧ o = some (.rt w)
theorem fs_nx {g : Gm} {v : Option Wd} {J : Gm → Prop} (h : v = none) (hJ : J g) : FS (some (.nx g)) v J := .inl ⟨h, g, rfl, hJ⟩
theorem fs_rt {w : Wd} {v : Option Wd} {J : Gm → Prop} (h : v = some w) : FS (some (.rt w)) v J := .inr ⟨w, h, rfl⟩
theorem find_then {α : Type} {f : DGF} {s q : SF} {C : Option Out → Prop} (enc : α → D) (J : Gm → Prop) (W : α → Option Wd) (xs : List α) {g : Gm} (hJ : J g)
    (h : ∀ a ∈ xs, ∀ g, J g → ∃ g1, f (enc a) g = some g1 ∧ FS (s g1) (W a) J) (k1 : ∀ g', xs.findSome? W = none → J g' → C (q g')) (k2 : ∀ w, xs.findSome? W = some w → C (some (.rt w))) : C (apSeq (loopD f s (xs.map enc) g) q) := by
  rcases loop_find enc J W xs g hJ h with ⟨e, g', e2, h2⟩ | ⟨w, e, e2⟩
  · rw [e2]
    exact k1 g' e h2
  · rw [e2]
    exact k2 w e
theorem loop_or {α : Type} {f : DGF} {s q : SF} {C : Option Out → Prop} (enc : α → D) : ∀ (xs : List α) (I : Nat → Gm → Prop) {g : Gm}, I 0 g →
    (∀ (i : Nat) (a : α) (g : Gm), xs[i]? = some a → I i g → ∃ g1, f (enc a) g = some g1 ∧ (StepTo (s g1) (I (i + 1)) ∨ ∃ w, s g1 = some (.rt w) ∧ C (some (.rt w)))) →
    (∀ g', I xs.length g' → C (q g')) → C (apSeq (loopD f s (xs.map enc) g) q)
  | [], I, g, h0, _, k => k g h0
  | a :: xs, I, g, h0, hs, k => by
    obtain ⟨g1, e1, z⟩ := hs 0 a g rfl h0
    have step : loopD f s ((a :: xs).map enc) g = (s g1).bind fun o => match o with
        | .nx g2 => loopD f s (xs.map enc) g2
        | .ct g2 => loopD f s (xs.map enc) g2
        | .bk g2 => some (.nx g2)
        | .rt w => some (.rt w) := by
      rw [List.map_cons]
      conv => lhs; unfold loopD
      rw [e1]
      rfl
    rw [step]
    rcases z with ⟨g2, e2, h2⟩ | ⟨w, e2, hc⟩
    · have r := loop_or enc xs (fun i => I (i + 1)) (g := g2) h2 (fun i a g hi hI => hs (i + 1) a g hi hI) k
      rcases e2 with e2 | e2 <;> (rw [e2]; exact r)
    · rw [e2]
      exact hc
/-! ### lists of texts that are equal -/
theorem eqvs_S : ∀ T : Ws, PyData.eqvAll (T.map fun a => .str (SX.S a)) (T.map fun a => .str (SX.S a)) = true
  | [] => by simp [PyData.eqvAll]
  | a :: T => by
    show PyData.eqvAll (PyData.str (SX.S a) :: T.map fun a => .str (SX.S a)) (PyData.str (SX.S a) :: T.map fun a => .str (SX.S a)) = true
    unfold PyData.eqvAll
    rw [eqv_S, decide_eq_true rfl, eqvs_S T]
    rfl
theorem deps_S : ∀ T : Ws, PyData.depthAll (T.map fun a => .str (SX.S a)) ≤ 1
  | [] => by simp [PyData.depthAll]
  | a :: T => by
    show PyData.depthAll (PyData.str (SX.S a) :: T.map fun a => .str (SX.S a)) ≤ 1
    unfold PyData.depthAll
    exact Nat.max_le.mpr ⟨by simp [PyData.depth], deps_S T⟩
theorem eq_lS {T : Ws} (h : ∀ a ∈ T, asc a = true) : eqD (.lst (T.map dS)) (.lst (T.map dS)) = some (.bl true) := by
  have e1 : toP (.lst (T.map dS)) = some (.list (T.map fun a => .str (SX.S a))) := by
    show (toPs (T.map dS)).map PyData.list = _
    rw [toPs_map (p := fun a => .str (SX.S a)) fun _ _ => rfl]
    rfl
  have e2 : SeqAt.shaped (.list (T.map fun a => .str (SX.S a))) = true := by
    unfold SeqAt.shaped
    have h1 : (PyData.list (T.map fun a => .str (SX.S a))).canLay0 = true := by
      unfold PyData.canLay0
      exact lays_map fun x m => by unfold PyData.canLay0; exact strOk_S (h x m)
    have h2 : (PyData.list (T.map fun a => .str (SX.S a))).depth ≤ 64 := by
      have := deps_S T
      unfold PyData.depth
      omega
    rw [h1, decide_eq_true h2]
    rfl
  unfold eqD eqB
  rw [e1, Option.bind_some, Option.bind_some, e2]
  have e3 : PyData.eqv (.list (T.map fun a => .str (SX.S a))) (.list (T.map fun a => .str (SX.S a))) = true := by
    unfold PyData.eqv
    exact eqvs_S T
  rw [e3]
  rfl
end Rk
end

section
set_option Elab.async false
set_option linter.all false
set_option maxRecDepth 100000
set_option maxHeartbeats 4000000
/-! Logs: the last picture, what is read from it on. -/
namespace Y
open L2 Zk Zc Zj Rk
open PySem hiding wordsOf
abbrev Sg := L × Option Rec
def sD (s : Sg) : D := .tup [dS s.1, oD recD s.2]
def isP : Option Rec → Bool
  | some r => isPic r
  | none => false
def Ok (S : List Sg) : Prop := S.length ≤ 110 ∧ ∀ s ∈ S, Str1 s.1 s.2
def logD (S : List Sg) : D := .lst ((S.map (·.1)).map dS)
def run : List Sg → List Rec
  | [] => []
  | s :: r => match s.2 with
    | none => []
    | some x => x :: run r
def Last (S : List Sg) (p : Nat) : Prop := ∃ A s B, S = A ++ s :: B ∧ A.length = p ∧ isP s.2 = true ∧ ∀ b ∈ B, isP b.2 = false
local macro_rules | `(tactic| walk_at "zs") => `(tactic| simp only [beq_self_eq_true, Bool.or_false, Bool.false_or, Bool.true_or, Bool.or_true, Bool.and_false, Bool.false_and, Bool.true_and, Bool.and_true, Zc.isi_ii, Zc.isi_ib, Zc.isi_tt, Zc.isi_ll, Zc.rowsT_len, Zc.rowsL_len, Zc.is_integer_call, Zc.ix_p0, Zc.ix_p1, dgTup2_a, dgTup3_a, Bool.not_true, Bool.not_false, mul_lz, List.flatten_cons, List.flatten_nil, Int.reduceToNat, add_ll, pow10_12, pow10_18, pow10_39, pow10_41, pow10_59, pow10_60, mkLst_some, mkTup_some, List.length_cons, List.length_nil, Nat.zero_le, Nat.reduceAdd, Nat.reduceLeDiff, call1, callO1, call2, callO2, call3, callO3, call4, callO4, call5, callO5, call6, callO6, ap1_some, ap2_some, apN_some, apC_some, d1_a, d2_a, dN_a, aNil_a, aCons_a, dC_a, dVar_z, dVar_s, tDt_a, apAnd_t, apAnd_f, apOr_t, apOr_f, dAndT_a, dOrT_a, apNot_some, dNotT_a, apAndV_t, apAndV_f, dAndV_a, apOrV_t, apOrV_f, dOrV_a, apIf_t, apIf_f, dIf_a, apCh_t, apCh_f, apChain_some, dChain_a, apSeq_nx, apSeq_rt, apSeq_ct, apSeq_bk, sSeq_a, apIfS_t, apIfS_f, sIf_a, sNext_a, sCont_a, sBreak_a, apRet_some, sRet_a, apRetO_some, sRetO_a, sRetN_a, getO_z, getO_s, apRetV_some, sRetV_a, ltB_z, ltB_s, okSlot_s, apAsg_some, sAsg_a, dName_ok, apG_some, dgCons_a, dgNil_a, apAsgO_some, sAsgO_a, sApp_a, sSetI_a, apFor_some, sFor_a, dItems_a, dRng1_a, dRng2_a, apEn_some, apEn_tup, dEnum_a, sFrz_a, frzs_nil, frzs_cons, frzI_o, frzI_v, frzI_n, frzI_s, frz1_s, frzAll_nil, frzAll_o, frzAll_v, frzAll_n, peekT_a, apPk_int, apPk_bl, apPk_str, apPk_non, peekF_a, dCall_a, toO_o, dCallO_a, dMake_a, Wd_v, Wd_o, dSl_a, apSl_some, oNone_a, oSome_a, apO_some, add_ii, sub_ii, lt_ii, le_ii, gt_ii, ge_ii, eq_ii, ne_ii, neg_i, not_b, bl_b, tru_b, tru_i, tru_l, tru_t, tru_n, len_l, len_t, len_scr, abs_i, int_i, list_l, list_t, tuple_l, tuple_t, min_ii, max_ii, rev_l, items_l, items_t, iL_len, run_a, outW_rt, outW_nx, List.map_cons, List.map_nil, List.replicate, List.append_nil, List.cons_append, List.nil_append, List.set_cons_zero, List.set_cons_succ, Option.map_some])
local macro_rules | `(tactic| walk_at "zd") => `(tactic| first | ((with_reducible show okSlot _ _ = true); simp only [okSlot_s, ltB_z, ltB_s]; done) | omega | assumption | decide | (simp only [List.length_map, List.length_append, List.length_cons, List.length_nil, List.length_range, List.length_set, List.length_reverse, iL_len, Zc.rowsT_len, Zc.rowsL_len] at *; omega))
local macro_rules | `(tactic| walk_at "zz") => `(tactic| simp (disch := walk_at "zd") only [dgTup2_a, dgTup3_a, Bool.not_true, Bool.not_false, mul_lz, List.flatten_cons, List.flatten_nil, Int.reduceToNat, add_ll, pow10_12, pow10_18, pow10_39, pow10_41, pow10_59, pow10_60, mkLst_some, mkTup_some, List.length_cons, List.length_nil, Nat.zero_le, Nat.reduceAdd, Nat.reduceLeDiff, call1, callO1, call2, callO2, call3, callO3, call4, callO4, call5, callO5, call6, callO6, ap1_some, ap2_some, apN_some, apC_some, d1_a, d2_a, dN_a, aNil_a, aCons_a, dC_a, dVar_z, dVar_s, tDt_a, apAnd_t, apAnd_f, apOr_t, apOr_f, dAndT_a, dOrT_a, apNot_some, dNotT_a, apAndV_t, apAndV_f, dAndV_a, apOrV_t, apOrV_f, dOrV_a, apIf_t, apIf_f, dIf_a, apCh_t, apCh_f, apChain_some, dChain_a, apSeq_nx, apSeq_rt, apSeq_ct, apSeq_bk, sSeq_a, apIfS_t, apIfS_f, sIf_a, sNext_a, sCont_a, sBreak_a, apRet_some, sRet_a, apRetO_some, sRetO_a, sRetN_a, getO_z, getO_s, apRetV_some, sRetV_a, ltB_z, ltB_s, okSlot_s, apAsg_some, sAsg_a, dName_ok, apG_some, dgCons_a, dgNil_a, apAsgO_some, sAsgO_a, sApp_a, sSetI_a, apFor_some, sFor_a, dItems_a, dRng1_a, dRng2_a, apEn_some, apEn_tup, dEnum_a, sFrz_a, frzs_nil, frzs_cons, frzI_o, frzI_v, frzI_n, frzI_s, frz1_s, frzAll_nil, frzAll_o, frzAll_v, frzAll_n, peekT_a, apPk_int, apPk_bl, apPk_str, apPk_non, peekF_a, dCall_a, toO_o, dCallO_a, dMake_a, Wd_v, Wd_o, dSl_a, apSl_some, oNone_a, oSome_a, apO_some, add_ii, sub_ii, lt_ii, le_ii, gt_ii, ge_ii, eq_ii, ne_ii, neg_i, not_b, bl_b, tru_b, tru_i, tru_l, tru_t, tru_n, len_l, len_t, len_scr, abs_i, int_i, list_l, list_t, tuple_l, tuple_t, min_ii, max_ii, rev_l, items_l, items_t, iL_len, run_a, outW_rt, outW_nx, List.map_cons, List.map_nil, List.replicate, List.append_nil, List.cons_append, List.nil_append, List.set_cons_zero, List.set_cons_succ, Option.map_some, Int.reduceAdd, Int.reduceMul, Int.reduceSub, Int.reduceNeg, beq_self_eq_true, Bool.or_false, Bool.false_or, Bool.true_or, Bool.or_true, Bool.and_false, Bool.false_and, Bool.true_and, Bool.and_true, Zc.isi_ii, Zc.isi_ib, Zc.isi_tt, Zc.isi_ll, Zc.rowsT_len, Zc.rowsL_len, Zc.is_integer_call, Zc.ix_p0, Zc.ix_p1, apR1_any, Int.toNat_natCast, apR2_some, mod_ii, fdiv_ii, mul_small, apApp_some, ix_at, ix_atT, ix_atI, ix_atIT, ix_atR, ix_atRT, List.length_map, List.length_append, List.length_range, List.length_set, Option.map_none, Option.map_map, decide_true, decide_false, peekO_a, apPkO_i, frz_wo, frz_wv, frz_kk, wipeG_nil, wipeG_cons, orB_s, orB_t, orB_f, andB_s, andB_t, andB_f, orV_s, orV_t, orV_f, andV_s, andV_t, andV_f, apOr_b, apAnd_b, apOrV_b, apAndV_b, apCh_b, Zc.cut_from, Zc.cut_to, in_l, in_t, in_pr, eq_op_op, eq_op_pr, eq_pr_op, eq_pr_pr, ne_op_op, ne_op_pr, ne_pr_op, ne_pr_pr, isnt_op, is_op, pr_0, pr_1, st_0, st_1, inP_pr, ninP_pr, nin_l, isi_prt, len_pr, op_some, prD_eq, ix_lit2, ix_lit3, ix_lit4, ix_lit5, ix_lit6, ix_lit7, ix_lit8, ix_lit9, ix_lit10, ix_lit11, ix_lit12, ix_lit13, ix_lit14, ix_lit15, setI_i, setI_p, setI_o, setI_n, snoc_i, snoc_r, snoc_p, snoc_n, snoc_o, snoc_pp, snoc_s, eq_ol, ne_ol, eq_pl, ne_pl, eq_sl, ne_sl, eq_il, ne_il, eq_rl, ne_rl, eq_il1, isi_bb, eq_bb, ne_bb, eq_self, lit, dM1_a, apM1_S, dM0_a, apM0_S, Bool.not_true, Bool.not_false, dSlS_w, apSl_s, Int.reduceBEq, Rk.is_tn, Rk.is_nn, isi_st, isi_stt, isi_is, isi_itt, isi_ts, Rk.isi_tt, Rk.isi_call, scall, is_nS, isnt_nS, isnt_nn, neg1, dAddO1, apAddO_l, addOL1, apAddL_l, addL_l, eq_picture_erase, eq_picture_picture, eq_picture_put, eq_picture_cap, eq_put_erase, eq_put_picture, eq_put_put, eq_put_cap, eq_erase_erase, eq_erase_picture, eq_erase_put, eq_erase_cap, eq_deal_erase, eq_deal_picture, eq_deal_put, eq_deal_cap, eq_cap_erase, eq_cap_picture, eq_cap_put, eq_cap_cap, ix2_0, ix2_1, ix2_m, ix3_0, ix3_1, ix3_2, ix3_m, ix4_0, ix4_1, ix4_2, ix4_3, ix4_m])
local macro_rules | `(tactic| walk_at "zf") => `(tactic| first | (walk_at "zz"; done) | (walk_at "zz"; rfl) | rfl)
local macro_rules | `(tactic| walk_at "lc") => `(tactic| ((case hf => rfl); (case hi => first | (walk_at "zz"; done) | (walk_at "zz"; rfl) | rfl); (case hl => walk_at "zd"); (case h => (intro a ha; refine ⟨_, dName_ok rfl, ?_, fun hT => ?_⟩ <;> walk_at "zz" <;> rfl))))
local macro_rules | `(tactic| walk_at "lm") => `(tactic| ((case hf => rfl); (case hi => first | (walk_at "zz"; done) | (walk_at "zz"; rfl) | rfl); (case hl => walk_at "zd"); (case h => (intro a ha; refine ⟨_, dName_ok rfl, ?_⟩; walk_at "zz"; rfl))))
theorem read_spec {s : Sg} (h : Str1 s.1 s.2) : g_read_record [dS s.1] = some (.v (oD recD s.2)) := by
  rw [e_read_record, read_rec_spec h.1 h.2.1, h.2.2.1]
def wPic : L := codes "picture "
theorem starts_pic {r : Rec} : decide ((textOf r).take wPic.length = wPic) = isPic r := by
  cases r with
  | pic caps ns es =>
    have : textOf (.pic caps ns es) = wPic ++ (TL.joinL [32] (joinN caps :: (ns.map nmT ++ [47] :: es.map wdT)) ++ [59]) := by
      show (codes "picture" ++ ([32] ++ TL.joinL [32] (joinN caps :: (ns.map nmT ++ [47] :: es.map wdT)))) ++ [59] = _
      simp [wPic, codes]
    rw [this, List.take_left]
    exact decide_eq_true rfl
  | put n is es => exact decide_eq_false fun z => by have h2 := congrArg (fun l => l[1]?) z; exact absurd h2 (by show ¬ (some 117 : Option Nat) = some 105; decide)
  | era n => exact decide_eq_false fun z => by have h2 := congrArg (fun l => l[0]?) z; exact absurd h2 (by show ¬ (some 101 : Option Nat) = some 112; decide)
  | deal es => exact decide_eq_false fun z => by have h2 := congrArg (fun l => l[0]?) z; exact absurd h2 (by show ¬ (some 100 : Option Nat) = some 112; decide)
  | cap s c es => exact decide_eq_false fun z => by have h2 := congrArg (fun l => l[0]?) z; exact absurd h2 (by show ¬ (some 99 : Option Nat) = some 112; decide)
theorem is_in (i : Int) : isD (.int i) .non = some (.bl false) := rfl
theorem log_len {S : List Sg} : ((S.map (·.1)).map dS).length = S.length := by rw [List.length_map, List.length_map]
theorem log_at {S : List Sg} {j : Nat} (h : j < S.length) : ixD (logD S) (.int (j : Int)) = some (dS S[j].1) := by
  unfold logD
  have e : ixD (.lst ((S.map (·.1)).map dS)) (.int (j : Int)) = some (((S.map (·.1)).map dS)[j]'(by rw [log_len]; exact h)) := at_nat (by rw [log_len]; exact h)
  rw [e]
  simp
theorem is_oR {o : Option Rec} : isD (oD recD o) .non = some (.bl o.isNone) := by
  cases o with
  | none => rfl
  | some r => cases r <;> rfl
theorem isnt_oR {o : Option Rec} : isntD (oD recD o) .non = some (.bl o.isSome) := by
  cases o with
  | none => rfl
  | some r => cases r <;> rfl
def revN (n : Nat) : List Nat := (List.range n).map fun i => n - 1 - i
theorem revL_map (n : Nat) : Zra.revL n = (revN n).map fun j : Nat => D.int (j : Int) := by
  unfold Zra.revL revN
  rw [List.map_map]
  refine List.map_congr_left fun i m => ?_
  have := List.mem_range.mp m
  show D.int ((n : Int) - 1 - (i : Int)) = D.int ((n - 1 - i : Nat) : Int)
  congr 1
  omega
theorem rev_mem {n j : Nat} : j ∈ revN n ↔ j < n := by
  unfold revN
  constructor
  · intro m
    obtain ⟨i, hm, rfl⟩ := List.mem_map.mp m
    have := List.mem_range.mp hm
    omega
  · intro h
    exact List.mem_map.mpr ⟨n - 1 - j, List.mem_range.mpr (by omega), by omega⟩
theorem rev_split {n a : Nat} {l1 l2 : List Nat} (h : revN n = l1 ++ a :: l2) : ∀ j, a < j → j < n → j ∈ l1 := fun j h1 h2 => by
  have hp : (revN n).Pairwise (· > ·) := by
    unfold revN
    refine List.pairwise_map.mpr (List.Pairwise.imp_of_mem (fun {x y} mx my hxy => ?_) (List.pairwise_lt_range (n := n)))
    have := List.mem_range.mp mx
    have := List.mem_range.mp my
    show n - 1 - x > n - 1 - y
    omega
  have hm : j ∈ revN n := rev_mem.mpr h2
  rw [h] at hm hp
  rcases List.mem_append.mp hm with z | z
  · exact z
  · rcases List.mem_cons.mp z with z | z
    · omega
    · have := (List.pairwise_cons.mp (List.pairwise_append.mp hp).2.1).1 j z
      omega
def pW (S : List Sg) (j : Nat) : Option Wd := if h : j < S.length then (if isP S[j].2 = true then some (.v (.int (j : Int))) else none) else none
def apRev : Option D → Option (List D) := fun x => x.bind fun x => match x with
  | .int n => if 0 ≤ n ∧ n ≤ 1000000 then some (Zra.revL n.toNat) else none
  | _ => none
theorem dRevR_a {a : DF} {g : Gm} : Zra.dRevR a g = apRev (a g) := rfl
theorem apRev_i {n : Nat} (h : n ≤ 1000000) : apRev (some (.int (n : Int))) = some (Zra.revL n) := by
  show (if 0 ≤ (n : Int) ∧ (n : Int) ≤ 1000000 then some (Zra.revL (n : Int).toNat) else none) = _
  rw [if_pos (by omega), Int.toNat_natCast]
theorem last_spec {S : List Sg} (ok : Ok S) : (∃ p : Nat, g_last_picture [logD S] = some (.v (.int (p : Int))) ∧ Last S p) ∨ (g_last_picture [logD S] = some (.v .non) ∧ ∀ s ∈ S, isP s.2 = false) := by
  unfold g_last_picture t_last_picture
  have hl := ok.1
  have e1 : lenD [logD S] = some (.int (S.length : Int)) := by
    unfold logD
    rw [len_l, log_len]
  walk_at "zz"
  rw [dRevR_a]
  walk_at "zz"
  rw [e1, apRev_i (by omega)]
  walk_at "zz"
  rw [revL_map]
  refine find_then (C := fun o => (∃ p : Nat, outW o = some (.v (.int (p : Int))) ∧ Last S p) ∨ (outW o = some (.v .non) ∧ ∀ s ∈ S, isP s.2 = false)) (fun j : Nat => D.int (j : Int)) (fun g => ∃ k : Option Wd, g = [some (.v (logD S)), k]) (pW S) (revN S.length) ⟨none, rfl⟩ ?_ ?_ ?_
  · rintro j hm g ⟨k, rfl⟩
    have hj : j < S.length := rev_mem.mp hm
    have hs := ok.2 S[j] (List.getElem_mem hj)
    refine ⟨_, dName_ok rfl, ?_⟩
    show FS (sIf _ _ _ [some (.v (logD S)), some (.v (.int (j : Int)))]) _ _
    walk_at "zz"
    rw [log_at hj]
    walk_at "zz"
    rw [show codes "picture " = wPic from rfl, starts_S]
    have hp : ∀ r, S[j].2 = some r → decide (S[j].1.take wPic.length = wPic) = isPic r := fun r e => by
      rw [(hs.2.2.2 r e).2, starts_pic]
    have hW : pW S j = if isP S[j].2 = true then some (.v (.int (j : Int))) else none := dif_pos hj
    rw [hW]
    cases hd : decide (S[j].1.take wPic.length = wPic)
    · walk_at "zz"
      refine fs_nx ?_ ⟨_, rfl⟩
      cases q : S[j].2 with
      | none => rfl
      | some r =>
        have := hp r q
        rw [hd] at this
        exact if_neg (fun z => by rw [show isP (some r) = isPic r from rfl, ← this] at z; cases z)
    · walk_at "zz"
      rw [log_at hj]
      walk_at "zz"
      rw [read_spec hs]
      walk_at "zz"
      rw [isnt_oR]
      cases q : S[j].2 with
      | none =>
        walk_at "zz"
        exact fs_nx rfl ⟨_, rfl⟩
      | some r =>
        have := hp r q
        rw [hd] at this
        walk_at "zz"
        exact fs_rt (if_pos this.symm)
  · rintro g e ⟨k, rfl⟩
    right
    refine ⟨rfl, fun s m => ?_⟩
    obtain ⟨j, hj, rfl⟩ := List.mem_iff_getElem.mp m
    have := List.findSome?_eq_none_iff.mp e j (rev_mem.mpr hj)
    unfold pW at this
    rw [dif_pos hj] at this
    cases q : isP S[j].2 with
    | false => rfl
    | true => rw [q, if_pos rfl] at this; cases this
  · intro w e
    left
    obtain ⟨l1, a, l2, h1, h2, h3⟩ := List.findSome?_eq_some_iff.mp e
    have ha : a < S.length := rev_mem.mp (by rw [h1]; simp)
    unfold pW at h2
    rw [dif_pos ha] at h2
    cases q : isP S[a].2 with
    | false => rw [q, if_neg Bool.false_ne_true] at h2; cases h2
    | true =>
      rw [q, if_pos rfl] at h2
      cases h2
      refine ⟨a, rfl, S.take a, S[a], S.drop (a + 1), ?_, by rw [List.length_take]; omega, q, fun b m => ?_⟩
      · rw [List.getElem_cons_drop, List.take_append_drop]
      · obtain ⟨i, hi, rfl⟩ := List.mem_iff_getElem.mp m
        rw [List.length_drop] at hi
        rw [List.getElem_drop]
        have := h3 (a + 1 + i) (rev_split h1 (a + 1 + i) (by omega) (by omega))
        unfold pW at this
        rw [dif_pos (by omega)] at this
        cases q2 : isP S[a + 1 + i].2 with
        | false => rfl
        | true => rw [q2, if_pos rfl] at this; cases this
/-! ### what is read -/
theorem run_some {s : Sg} {x : Rec} {A : List Sg} (h : s.2 = some x) : run (s :: A) = x :: run A := by
  conv => lhs; unfold run
  rw [h]
theorem run_none {s : Sg} {A : List Sg} (h : s.2 = none) : run (s :: A) = [] := by
  conv => lhs; unfold run
  rw [h]
theorem run_app : ∀ (A B : List Sg), (run A).length = A.length → run (A ++ B) = run A ++ run B
  | [], B, _ => rfl
  | s :: A, B, h => by
    show run (s :: (A ++ B)) = _
    cases q : s.2 with
    | none => rw [run_none q] at h; simp at h
    | some x =>
      rw [run_some q] at h
      rw [run_some q, run_some q, run_app A B (by simp at h; exact h)]
      rfl
theorem run_stop : ∀ (A : List Sg) (s : Sg) (B : List Sg), s.2 = none → run (A ++ s :: B) = run A
  | [], s, B, h => by
    show run (s :: B) = []
    unfold run
    rw [h]
  | a :: A, s, B, h => by
    show run (a :: (A ++ s :: B)) = run (a :: A)
    unfold run
    cases a.2 with
    | none => rfl
    | some x =>
      simp only
      rw [run_stop A s B h]
theorem run_le : ∀ A : List Sg, (run A).length ≤ A.length
  | [] => Nat.le_refl _
  | a :: A => by
    unfold run
    cases a.2 with
    | none => simp
    | some x => have := run_le A; simp; omega
def recL (R : List Rec) : D := .lst (R.map recD)
theorem read_log_spec {S : List Sg} (ok : Ok S) : (∃ p, g_read_log [logD S] = some (.o (recL (run (S.drop p)))) ∧ Last S p ∧ g_last_picture [logD S] = some (.v (.int (p : Int)))) ∨ (g_read_log [logD S] = some (.o (recL [])) ∧ (∀ s ∈ S, isP s.2 = false) ∧ g_last_picture [logD S] = some (.v .non)) := by
  have hl := ok.1
  unfold g_read_log t_read_log
  walk_at "zz"
  rcases last_spec ok with ⟨p, e1, h1⟩ | ⟨e1, h1⟩
  · left
    refine ⟨p, ?_, h1, e1⟩
    rw [e1]
    walk_at "zz"
    rw [is_in, show logD S = D.lst ((S.map (·.1)).map dS) from rfl]
    walk_at "zz"
    rw [← List.map_drop, ← List.map_drop]
    have hX : ∀ s ∈ S.drop p, Str1 s.1 s.2 := fun s m => ok.2 s (List.mem_of_mem_drop m)
    have hXl : (S.drop p).length ≤ 110 := by rw [List.length_drop]; omega
    generalize S.drop p = X at hX hXl ⊢
    rw [List.map_map]
    refine loop_or (C := fun o => outW o = some (.o (recL (run X)))) (dS ∘ fun s : Sg => s.1) X (fun i g => (run (X.take i)).length = i ∧ ∃ k3 k4 : Option Wd, g = [some (.v (.lst ((S.map (·.1)).map dS))), some (.v (.int (p : Int))), some (.o (recL (run (X.take i)))), k3, k4]) ⟨rfl, _, _, rfl⟩ ?_ ?_
    · rintro i s g hi ⟨hr, k3, k4, rfl⟩
      have hil : i < X.length := (List.getElem?_eq_some_iff.mp hi).1
      have hs := hX s (List.mem_of_getElem? hi)
      refine ⟨_, dName_ok rfl, ?_⟩
      show (StepTo (sSeq _ _ [some (.v (.lst ((S.map (·.1)).map dS))), some (.v (.int (p : Int))), some (.o (recL (run (X.take i)))), some (.v (dS s.1)), k4]) _) ∨ ∃ w, sSeq _ _ [some (.v (.lst ((S.map (·.1)).map dS))), some (.v (.int (p : Int))), some (.o (recL (run (X.take i)))), some (.v (dS s.1)), k4] = _ ∧ _
      have hsp : X = X.take i ++ s :: X.drop (i + 1) := by
        rw [← (List.getElem?_eq_some_iff.mp hi).2, List.getElem_cons_drop, List.take_append_drop]
      cases q : s.2 with
      | none =>
        right
        refine ⟨.o (recL (run (X.take i))), ?_, ?_⟩
        · walk_at "zz"
          rw [read_spec hs, q]
          walk_at "zz"
          rfl
        · show some (Wd.o (recL (run (X.take i)))) = some (Wd.o (recL (run X)))
          conv => rhs; rw [hsp]
          rw [run_stop _ _ _ q]
      | some r =>
        left
        have hlen : ((run (X.take i)).map recD).length + 1 ≤ 100000 := by rw [List.length_map, hr]; omega
        unfold recL
        walk_at "zz"
        rw [read_spec hs]
        walk_at "zz"
        rw [is_oR, q, show (some r).isNone = false from rfl]
        walk_at "zz"
        have e3 : X.take (i + 1) = X.take i ++ [s] := by
          rw [List.take_succ_eq_append_getElem hil, (List.getElem?_eq_some_iff.mp hi).2]
        refine step_nx (J := fun g => (run (X.take (i + 1))).length = i + 1 ∧ ∃ k3 k4 : Option Wd, g = [some (.v (.lst ((S.map (·.1)).map dS))), some (.v (.int (p : Int))), some (.o (recL (run (X.take (i + 1))))), k3, k4]) ⟨?_, some (.v (dS s.1)), some (.v (recD r)), ?_⟩
        · rw [e3, run_app _ _ (by rw [hr, List.length_take]; omega), run_some q, List.length_append, hr]
          rfl
        · rw [e3, run_app _ _ (by rw [hr, List.length_take]; omega), run_some q]
          show _ = [_, _, some (Wd.o (D.lst ((run (X.take i) ++ [r]).map recD))), _, _]
          rw [List.map_append]
          rfl
    · rintro g ⟨hr, k3, k4, rfl⟩
      rw [List.take_length]
      rfl
  · right
    refine ⟨?_, h1, e1⟩
    rw [e1]
    walk_at "zz"
    rfl
end Y
end

section
set_option Elab.async false
set_option linter.all false
set_option maxRecDepth 100000
set_option maxHeartbeats 4000000
/-! What is counted, and that it is what is read. -/
namespace Y
open L2 Zk Zc Zj Rk
open PySem hiding wordsOf
theorem ltb_get {S : List Sg} {p : Nat} (h : Last S p) : (∃ s, S[p]? = some s ∧ isP s.2 = true) ∧ ∀ j b, p < j → S[j]? = some b → isP b.2 = false := by
  obtain ⟨A, s, B, rfl, rfl, h1, h2⟩ := h
  refine ⟨⟨s, by simp, h1⟩, fun j b hj e => ?_⟩
  rw [List.getElem?_append_right (by omega), show j - A.length = (j - A.length - 1) + 1 by omega, List.getElem?_cons_succ] at e
  exact h2 b (List.mem_of_getElem? e)
theorem last_one {S : List Sg} {p q : Nat} (h : Last S p) (k : Last S q) : p = q := by
  obtain ⟨⟨s, h1, h2⟩, h3⟩ := ltb_get h
  obtain ⟨⟨t, k1, k2⟩, k3⟩ := ltb_get k
  rcases Nat.lt_trichotomy p q with z | z | z
  · rw [h3 q t z k1] at k2; cases k2
  · exact z
  · rw [k3 p s z h1] at h2; cases h2
theorem run_short : ∀ (A B : List Sg), (run A).length < A.length → run (A ++ B) = run A
  | [], B, h => by simp at h
  | a :: A, B, h => by
    show run (a :: (A ++ B)) = _
    cases q : a.2 with
    | none => rw [run_none q, run_none q]
    | some x =>
      rw [run_some q] at h
      rw [run_some q, run_some q, run_short A B (by simp at h; exact h)]
def CN (X : List Sg) (R : List Rec) (e : Nat) (c : Bool) : Prop := ((∀ s ∈ X, isP s.2 = false) ∧ R = [] ∧ e = 0 ∧ c = false) ∨
  ∃ A s B, X = A ++ s :: B ∧ isP s.2 = true ∧ (∀ b ∈ B, isP b.2 = false) ∧ R = run (s :: B) ∧ e = A.length + R.length ∧ (c = true ↔ R.length = (s :: B).length)
theorem cn_stay {X : List Sg} {R : List Rec} {e : Nat} {c : Bool} {t : Sg} (h : CN X R e c) (hp : isP t.2 = false) (hc : t.2 = none ∨ c = false) : CN (X ++ [t]) R e false := by
  rcases h with ⟨h1, rfl, rfl, rfl⟩ | ⟨A, s, B, rfl, h1, h2, rfl, rfl, h5⟩
  · exact .inl ⟨fun s m => (List.mem_append.mp m).elim (h1 s) fun m => by rw [List.mem_singleton.mp m]; exact hp, rfl, rfl, rfl⟩
  · have hrun : run (s :: (B ++ [t])) = run (s :: B) := by
      rcases hc with hc | hc
      · exact run_stop (s :: B) t [] hc
      · exact run_short (s :: B) [t] (by
          have := run_le (s :: B)
          have hne : (run (s :: B)).length ≠ (s :: B).length := fun z => by rw [h5.mpr z] at hc; cases hc
          omega)
    refine .inr ⟨A, s, B ++ [t], by simp, h1, fun b m => (List.mem_append.mp m).elim (h2 b) fun m => by rw [List.mem_singleton.mp m]; exact hp, hrun.symm, rfl, ?_⟩
    have := run_le (s :: B)
    simp only [List.length_cons, List.length_append, List.length_nil] at this ⊢
    constructor
    · intro z; cases z
    · intro z; omega
theorem cn_pic {X : List Sg} {t : Sg} {r : Rec} (ht : t.2 = some r) (hp : isPic r = true) : CN (X ++ [t]) [r] (X.length + 1) true :=
  .inr ⟨X, t, [], rfl, by rw [ht]; exact hp, fun b m => (by cases m), by rw [run_some ht]; rfl, rfl, by simp⟩
theorem cn_more {X : List Sg} {R : List Rec} {e : Nat} {t : Sg} {r : Rec} (h : CN X R e true) (ht : t.2 = some r) (hp : isPic r = false) : CN (X ++ [t]) (R ++ [r]) (X.length + 1) true := by
  rcases h with ⟨h1, rfl, rfl, h4⟩ | ⟨A, s, B, rfl, h1, h2, rfl, rfl, h5⟩
  · cases h4
  · have hl := h5.mp rfl
    refine .inr ⟨A, s, B ++ [t], by simp, h1, fun b m => (List.mem_append.mp m).elim (h2 b) fun m => by rw [List.mem_singleton.mp m, ht]; exact hp, ?_, ?_, ?_⟩
    · have := run_app (s :: B) [t] hl
      rw [run_some ht] at this
      exact this.symm
    · simp only [List.length_append, List.length_cons, List.length_nil] at hl ⊢
      omega
    · simp only [List.length_append, List.length_cons, List.length_nil] at hl ⊢
      constructor
      · intro _; omega
      · intro _; trivial
theorem kind0 (r : Rec) : ∃ k, ixD (recD r) (.int 0) = some (dS k) ∧ eqD (dS k) (dS (codes "picture")) = some (.bl (isPic r)) := by
  cases r with
  | pic => exact ⟨_, rfl, eq_picture_picture⟩
  | put => exact ⟨_, rfl, eq_put_picture⟩
  | era => exact ⟨_, rfl, eq_erase_picture⟩
  | deal => exact ⟨_, rfl, eq_deal_picture⟩
  | cap => exact ⟨_, rfl, eq_cap_picture⟩
local macro_rules | `(tactic| walk_at "zs") => `(tactic| simp only [beq_self_eq_true, Bool.or_false, Bool.false_or, Bool.true_or, Bool.or_true, Bool.and_false, Bool.false_and, Bool.true_and, Bool.and_true, Zc.isi_ii, Zc.isi_ib, Zc.isi_tt, Zc.isi_ll, Zc.rowsT_len, Zc.rowsL_len, Zc.is_integer_call, Zc.ix_p0, Zc.ix_p1, dgTup2_a, dgTup3_a, Bool.not_true, Bool.not_false, mul_lz, List.flatten_cons, List.flatten_nil, Int.reduceToNat, add_ll, pow10_12, pow10_18, pow10_39, pow10_41, pow10_59, pow10_60, mkLst_some, mkTup_some, List.length_cons, List.length_nil, Nat.zero_le, Nat.reduceAdd, Nat.reduceLeDiff, call1, callO1, call2, callO2, call3, callO3, call4, callO4, call5, callO5, call6, callO6, ap1_some, ap2_some, apN_some, apC_some, d1_a, d2_a, dN_a, aNil_a, aCons_a, dC_a, dVar_z, dVar_s, tDt_a, apAnd_t, apAnd_f, apOr_t, apOr_f, dAndT_a, dOrT_a, apNot_some, dNotT_a, apAndV_t, apAndV_f, dAndV_a, apOrV_t, apOrV_f, dOrV_a, apIf_t, apIf_f, dIf_a, apCh_t, apCh_f, apChain_some, dChain_a, apSeq_nx, apSeq_rt, apSeq_ct, apSeq_bk, sSeq_a, apIfS_t, apIfS_f, sIf_a, sNext_a, sCont_a, sBreak_a, apRet_some, sRet_a, apRetO_some, sRetO_a, sRetN_a, getO_z, getO_s, apRetV_some, sRetV_a, ltB_z, ltB_s, okSlot_s, apAsg_some, sAsg_a, dName_ok, apG_some, dgCons_a, dgNil_a, apAsgO_some, sAsgO_a, sApp_a, sSetI_a, apFor_some, sFor_a, dItems_a, dRng1_a, dRng2_a, apEn_some, apEn_tup, dEnum_a, sFrz_a, frzs_nil, frzs_cons, frzI_o, frzI_v, frzI_n, frzI_s, frz1_s, frzAll_nil, frzAll_o, frzAll_v, frzAll_n, peekT_a, apPk_int, apPk_bl, apPk_str, apPk_non, peekF_a, dCall_a, toO_o, dCallO_a, dMake_a, Wd_v, Wd_o, dSl_a, apSl_some, oNone_a, oSome_a, apO_some, add_ii, sub_ii, lt_ii, le_ii, gt_ii, ge_ii, eq_ii, ne_ii, neg_i, not_b, bl_b, tru_b, tru_i, tru_l, tru_t, tru_n, len_l, len_t, len_scr, abs_i, int_i, list_l, list_t, tuple_l, tuple_t, min_ii, max_ii, rev_l, items_l, items_t, iL_len, run_a, outW_rt, outW_nx, List.map_cons, List.map_nil, List.replicate, List.append_nil, List.cons_append, List.nil_append, List.set_cons_zero, List.set_cons_succ, Option.map_some])
local macro_rules | `(tactic| walk_at "zd") => `(tactic| first | ((with_reducible show okSlot _ _ = true); simp only [okSlot_s, ltB_z, ltB_s]; done) | omega | assumption | decide | (simp only [List.length_map, List.length_append, List.length_cons, List.length_nil, List.length_range, List.length_set, List.length_reverse, iL_len, Zc.rowsT_len, Zc.rowsL_len] at *; omega))
local macro_rules | `(tactic| walk_at "zz") => `(tactic| simp (disch := walk_at "zd") only [dgTup2_a, dgTup3_a, Bool.not_true, Bool.not_false, mul_lz, List.flatten_cons, List.flatten_nil, Int.reduceToNat, add_ll, pow10_12, pow10_18, pow10_39, pow10_41, pow10_59, pow10_60, mkLst_some, mkTup_some, List.length_cons, List.length_nil, Nat.zero_le, Nat.reduceAdd, Nat.reduceLeDiff, call1, callO1, call2, callO2, call3, callO3, call4, callO4, call5, callO5, call6, callO6, ap1_some, ap2_some, apN_some, apC_some, d1_a, d2_a, dN_a, aNil_a, aCons_a, dC_a, dVar_z, dVar_s, tDt_a, apAnd_t, apAnd_f, apOr_t, apOr_f, dAndT_a, dOrT_a, apNot_some, dNotT_a, apAndV_t, apAndV_f, dAndV_a, apOrV_t, apOrV_f, dOrV_a, apIf_t, apIf_f, dIf_a, apCh_t, apCh_f, apChain_some, dChain_a, apSeq_nx, apSeq_rt, apSeq_ct, apSeq_bk, sSeq_a, apIfS_t, apIfS_f, sIf_a, sNext_a, sCont_a, sBreak_a, apRet_some, sRet_a, apRetO_some, sRetO_a, sRetN_a, getO_z, getO_s, apRetV_some, sRetV_a, ltB_z, ltB_s, okSlot_s, apAsg_some, sAsg_a, dName_ok, apG_some, dgCons_a, dgNil_a, apAsgO_some, sAsgO_a, sApp_a, sSetI_a, apFor_some, sFor_a, dItems_a, dRng1_a, dRng2_a, apEn_some, apEn_tup, dEnum_a, sFrz_a, frzs_nil, frzs_cons, frzI_o, frzI_v, frzI_n, frzI_s, frz1_s, frzAll_nil, frzAll_o, frzAll_v, frzAll_n, peekT_a, apPk_int, apPk_bl, apPk_str, apPk_non, peekF_a, dCall_a, toO_o, dCallO_a, dMake_a, Wd_v, Wd_o, dSl_a, apSl_some, oNone_a, oSome_a, apO_some, add_ii, sub_ii, lt_ii, le_ii, gt_ii, ge_ii, eq_ii, ne_ii, neg_i, not_b, bl_b, tru_b, tru_i, tru_l, tru_t, tru_n, len_l, len_t, len_scr, abs_i, int_i, list_l, list_t, tuple_l, tuple_t, min_ii, max_ii, rev_l, items_l, items_t, iL_len, run_a, outW_rt, outW_nx, List.map_cons, List.map_nil, List.replicate, List.append_nil, List.cons_append, List.nil_append, List.set_cons_zero, List.set_cons_succ, Option.map_some, Int.reduceAdd, Int.reduceMul, Int.reduceSub, Int.reduceNeg, beq_self_eq_true, Bool.or_false, Bool.false_or, Bool.true_or, Bool.or_true, Bool.and_false, Bool.false_and, Bool.true_and, Bool.and_true, Zc.isi_ii, Zc.isi_ib, Zc.isi_tt, Zc.isi_ll, Zc.rowsT_len, Zc.rowsL_len, Zc.is_integer_call, Zc.ix_p0, Zc.ix_p1, apR1_any, Int.toNat_natCast, apR2_some, mod_ii, fdiv_ii, mul_small, apApp_some, ix_at, ix_atT, ix_atI, ix_atIT, ix_atR, ix_atRT, List.length_map, List.length_append, List.length_range, List.length_set, Option.map_none, Option.map_map, decide_true, decide_false, peekO_a, apPkO_i, frz_wo, frz_wv, frz_kk, wipeG_nil, wipeG_cons, orB_s, orB_t, orB_f, andB_s, andB_t, andB_f, orV_s, orV_t, orV_f, andV_s, andV_t, andV_f, apOr_b, apAnd_b, apOrV_b, apAndV_b, apCh_b, Zc.cut_from, Zc.cut_to, in_l, in_t, in_pr, eq_op_op, eq_op_pr, eq_pr_op, eq_pr_pr, ne_op_op, ne_op_pr, ne_pr_op, ne_pr_pr, isnt_op, is_op, pr_0, pr_1, st_0, st_1, inP_pr, ninP_pr, nin_l, isi_prt, len_pr, op_some, prD_eq, ix_lit2, ix_lit3, ix_lit4, ix_lit5, ix_lit6, ix_lit7, ix_lit8, ix_lit9, ix_lit10, ix_lit11, ix_lit12, ix_lit13, ix_lit14, ix_lit15, setI_i, setI_p, setI_o, setI_n, snoc_i, snoc_r, snoc_p, snoc_n, snoc_o, snoc_pp, snoc_s, eq_ol, ne_ol, eq_pl, ne_pl, eq_sl, ne_sl, eq_il, ne_il, eq_rl, ne_rl, eq_il1, isi_bb, eq_bb, ne_bb, eq_self, lit, dM1_a, apM1_S, dM0_a, apM0_S, Bool.not_true, Bool.not_false, dSlS_w, apSl_s, Int.reduceBEq, Rk.is_tn, Rk.is_nn, isi_st, isi_stt, isi_is, isi_itt, isi_ts, Rk.isi_tt, Rk.isi_call, scall, is_nS, isnt_nS, isnt_nn, neg1, dAddO1, apAddO_l, addOL1, apAddL_l, addL_l, eq_picture_erase, eq_picture_picture, eq_picture_put, eq_picture_cap, eq_put_erase, eq_put_picture, eq_put_put, eq_put_cap, eq_erase_erase, eq_erase_picture, eq_erase_put, eq_erase_cap, eq_deal_erase, eq_deal_picture, eq_deal_put, eq_deal_cap, eq_cap_erase, eq_cap_picture, eq_cap_put, eq_cap_cap, ix2_0, ix2_1, ix2_m, ix3_0, ix3_1, ix3_2, ix3_m, ix4_0, ix4_1, ix4_2, ix4_3, ix4_m])
local macro_rules | `(tactic| walk_at "zf") => `(tactic| first | (walk_at "zz"; done) | (walk_at "zz"; rfl) | rfl)
local macro_rules | `(tactic| walk_at "lc") => `(tactic| ((case hf => rfl); (case hi => first | (walk_at "zz"; done) | (walk_at "zz"; rfl) | rfl); (case hl => walk_at "zd"); (case h => (intro a ha; refine ⟨_, dName_ok rfl, ?_, fun hT => ?_⟩ <;> walk_at "zz" <;> rfl))))
local macro_rules | `(tactic| walk_at "lm") => `(tactic| ((case hf => rfl); (case hi => first | (walk_at "zz"; done) | (walk_at "zz"; rfl) | rfl); (case hl => walk_at "zd"); (case h => (intro a ha; refine ⟨_, dName_ok rfl, ?_⟩; walk_at "zz"; rfl))))
theorem counted_spec {S : List Sg} (hl : S.length ≤ 110) : ∃ R e c, g_law_counted [.lst (S.map sD)] = some (.v (.tup [.tup (R.map recD), .int (e : Nat)])) ∧ CN S R e c := by
  unfold g_law_counted t_law_counted
  walk_at "zz"
  refine rng_then (C := fun o => ∃ R e c, outW o = some (.v (.tup [.tup (R.map recD), .int ((e : Nat) : Int)])) ∧ CN S R e c) (fun i g => ∃ (R : List Rec) (e : Nat) (c : Bool) (k4 k5 : Option Wd), g = [some (.v (.lst (S.map sD))), some (.o (.lst (R.map recD))), some (.v (.int (e : Int))), some (.v (.bl c)), k4, k5] ∧ CN (S.take i) R e c) ?_ ?_ ?_ ?_
  · exact ⟨[], 0, false, none, none, rfl, .inl ⟨fun s m => (by cases m), rfl, rfl, rfl⟩⟩
  · rintro i g ⟨R, e, c, k4, k5, rfl, _⟩
    rfl
  · rintro i g hi ⟨R, e, c, k4, k5, rfl, hc⟩
    have e3 : S.take (i + 1) = S.take i ++ [S[i]] := List.take_succ_eq_append_getElem hi
    have hti : (S.take i).length = i := by rw [List.length_take]; omega
    have et : at_ S (i : Int) = S[i] := at_eq rfl (List.getElem?_eq_getElem hi)
    rw [← et] at e3
    rw [e3]
    show StepTo (sSeq _ _ [some (.v (.lst (S.map sD))), some (.o (.lst (R.map recD))), some (.v (.int (e : Int))), some (.v (.bl c)), some (.v (.int (i : Int))), k5]) _
    walk_at "zz"
    generalize at_ S (i : Int) = t
    rw [show sD t = D.tup [dS t.1, oD recD t.2] from rfl]
    walk_at "zz"
    rw [is_oR]
    have hRl : (R.map recD).length + 1 ≤ 100000 := by
      rw [List.length_map]
      rcases hc with ⟨_, rfl, _⟩ | ⟨A, s, B, h0, _, _, rfl, _⟩
      · simp
      · have := run_le (s :: B)
        have h1 := congrArg List.length h0
        rw [List.length_append] at h1
        omega
    cases q : t.2 with
    | none =>
      rw [show (none : Option Rec).isNone = true from rfl]
      walk_at "zz"
      exact step_nx ⟨R, e, false, _, _, rfl, cn_stay hc (by rw [q]; rfl) (.inl q)⟩
    | some r =>
      rw [show (some r).isNone = false from rfl, show oD recD (some r) = recD r from rfl]
      walk_at "zz"
      obtain ⟨k, n1, n2⟩ := kind0 r
      rw [n1]
      walk_at "zz"
      rw [n2]
      cases qp : isPic r
      · cases c
        · walk_at "zz"
          exact step_nx ⟨R, e, false, _, _, rfl, cn_stay hc (by rw [q]; exact qp) (.inr rfl)⟩
        · walk_at "zz"
          have hm := cn_more hc q qp
          rw [hti] at hm
          refine step_nx ⟨R ++ [r], i + 1, true, some (.v (.int (i : Int))), some (.v (recD r)), ?_, hm⟩
          rw [List.map_append]
          rfl
      · walk_at "zz"
        have hm := cn_pic (X := S.take i) q qp
        rw [hti] at hm
        exact step_nx ⟨[r], i + 1, true, _, _, rfl, hm⟩
  · rintro g ⟨R, e, c, k4, k5, rfl, hc⟩
    rw [List.take_length] at hc
    walk_at "zz"
    exact ⟨R, e, c, rfl, hc⟩
theorem u0 {d : D} (h : plain 0 d) : g_law_alikeU0 [d, d] = some (.v (.bl true)) := alike_atom0 h
theorem u1 {d : D} (h : plain 1 d) : g_law_alikeU1 [d, d] = some (.v (.bl true)) := alike_rec (rec := g_law_alikeU0) (fun x => u0) h
theorem u2 {d : D} (h : plain 2 d) : g_law_alikeU2 [d, d] = some (.v (.bl true)) := alike_rec (rec := g_law_alikeU1) (fun x => u1) h
theorem u3 {d : D} (h : plain 3 d) : g_law_alikeU3 [d, d] = some (.v (.bl true)) := alike_rec (rec := g_law_alikeU2) (fun x => u2) h
theorem u4 {d : D} (h : plain 4 d) : g_law_alikeU4 [d, d] = some (.v (.bl true)) := alike_rec (rec := g_law_alikeU3) (fun x => u3) h
theorem alike_spec {d : D} (h : plain 5 d) : g_law_alike [d, d] = some (.v (.bl true)) := alike_rec (rec := g_law_alikeU4) (fun x => u4) h
theorem run_mem : ∀ {X : List Sg} {r : Rec}, r ∈ run X → ∃ s ∈ X, s.2 = some r
  | a :: X, r, h => by
    cases q : a.2 with
    | none => rw [run_none q] at h; cases h
    | some x =>
      rw [run_some q] at h
      rcases List.mem_cons.mp h with z | z
      · exact ⟨a, List.mem_cons_self, by rw [q, z]⟩
      · obtain ⟨s, h1, h2⟩ := run_mem z
        exact ⟨s, List.mem_cons_of_mem _ h1, h2⟩
theorem run_plain {S : List Sg} (ok : Ok S) {X : List Sg} (hX : ∀ s ∈ X, s ∈ S) (hl : X.length ≤ 110) : plain 5 (.tup ((run X).map recD)) := by
  refine plain_tup (by rw [List.length_map]; have := run_le X; omega) fun d m => ?_
  obtain ⟨r, hr, rfl⟩ := List.mem_map.mp m
  obtain ⟨s, h1, h2⟩ := run_mem hr
  exact rec_plain ((ok.2 s (hX s h1)).2.2.2 r h2).1
theorem log_end_spec {S : List Sg} (ok : Ok S) : (∃ p, g_log_end [logD S] = some (.v (.int ((p + (run (S.drop p)).length : Nat) : Int))) ∧ Last S p ∧ g_read_log [logD S] = some (.o (recL (run (S.drop p))))) ∨ (g_log_end [logD S] = some (.v (.int 0)) ∧ (∀ s ∈ S, isP s.2 = false) ∧ g_read_log [logD S] = some (.o (recL []))) := by
  unfold g_log_end t_log_end
  walk_at "zz"
  rcases read_log_spec ok with ⟨p, e1, h1, e2⟩ | ⟨e1, h1, e2⟩
  · left
    refine ⟨p, ?_, h1, e1⟩
    rw [e2]
    walk_at "zz"
    rw [is_in]
    walk_at "zz"
    rw [e1]
    unfold recL
    walk_at "zz"
    rw [Int.natCast_add]
  · right
    refine ⟨?_, h1, e1⟩
    rw [e2]
    walk_at "zz"
theorem isiY (k : Int) : g_law_is_integer [.int k] = some (.v (.bl true)) := rfl
theorem sD0 (s : Sg) : ixD (sD s) (.int 0) = some (dS s.1) := rfl
theorem reads_spec {S : List Sg} (ok : Ok S) : g_law_reads [logD S, .lst (S.map sD)] = some (.v (.bl true)) := by
  obtain ⟨R, e, c, hc, cn⟩ := counted_spec ok.1
  have hl := ok.1
  -- what is read is what is counted
  obtain ⟨X, hX, hXl, hr, he⟩ : ∃ X : List Sg, (∀ s ∈ X, s ∈ S) ∧ X.length ≤ 110 ∧ (R = run X ∧ g_read_log [logD S] = some (.o (recL (run X)))) ∧ g_log_end [logD S] = some (.v (.int (e : Nat))) := by
    rcases log_end_spec ok with ⟨p, l1, l2, l3⟩ | ⟨l1, l2, l3⟩
    · rcases cn with ⟨n1, rfl, rfl, _⟩ | ⟨A, s, B, h0, h1, h2, h3, h4, _⟩
      · obtain ⟨⟨s, g1, g2⟩, _⟩ := ltb_get l2
        rw [n1 s (List.mem_of_getElem? g1)] at g2
        cases g2
      · have hp : p = A.length := last_one l2 ⟨A, s, B, h0, rfl, h1, h2⟩
        have hd : S.drop p = s :: B := by rw [hp, h0, List.drop_left]
        refine ⟨s :: B, fun x m => by rw [h0]; exact List.mem_append_right _ m, ?_, ⟨h3, by rw [← hd]; exact l3⟩, ?_⟩
        · have := congrArg List.length h0
          rw [List.length_append] at this
          omega
        · rw [l1, hd, h4, h3, hp]
    · rcases cn with ⟨n1, rfl, rfl, _⟩ | ⟨A, s, B, h0, h1, h2, h3, h4, _⟩
      · exact ⟨[], fun s m => (by cases m), by simp, ⟨rfl, l3⟩, l1⟩
      · rw [l2 s (by rw [h0]; simp)] at h1
        cases h1
  obtain ⟨hR, hr⟩ := hr
  unfold g_law_reads t_law_reads
  walk_at "zz"
  rw [hc]
  walk_at "zz"
  rw [hr]
  have hlen : (R.map recD).length + 1 ≤ 100000 := by rw [hR, List.length_map]; have := run_le X; omega
  unfold recL
  walk_at "zz"
  rw [← hR, alike_spec (by rw [hR]; exact run_plain ok hX hXl)]
  walk_at "zz"
  rw [he]
  walk_at "zz"
  rw [isiY]
  walk_at "zz"
  rewrite [dLc_map sD (xs := S) (F := fun s => dS s.1)]
  case hf => rfl
  case hi => walk_at "zz"
  case hl => omega
  case h =>
    intro s hm
    refine ⟨_, dName_ok rfl, ?_⟩
    walk_at "zz"
    exact sD0 s
  walk_at "zz"
  have e9 : (S.map fun s : Sg => dS s.1) = (S.map (·.1)).map dS := by rw [List.map_map]; rfl
  rw [e9]
  show outW (apRet (eqD (.lst ((S.map (·.1)).map dS)) (.lst ((S.map (·.1)).map dS)))) = _
  rw [eq_lS fun a m => by obtain ⟨s, hs, rfl⟩ := List.mem_map.mp m; exact (ok.2 s hs).1]
  walk_at "zz"
end Y
end

section
set_option Elab.async false
set_option linter.all false
set_option maxRecDepth 100000
set_option maxHeartbeats 4000000
/-! The law. -/
namespace Y
open L2 Zk Zc Zj Rk
open PySem hiding wordsOf
theorem pk_S (a : L) : apPk (some (dS a)) = some (dS a) := (rfl)
local macro_rules | `(tactic| walk_at "zs") => `(tactic| simp only [beq_self_eq_true, Bool.or_false, Bool.false_or, Bool.true_or, Bool.or_true, Bool.and_false, Bool.false_and, Bool.true_and, Bool.and_true, Zc.isi_ii, Zc.isi_ib, Zc.isi_tt, Zc.isi_ll, Zc.rowsT_len, Zc.rowsL_len, Zc.is_integer_call, Zc.ix_p0, Zc.ix_p1, dgTup2_a, dgTup3_a, Bool.not_true, Bool.not_false, mul_lz, List.flatten_cons, List.flatten_nil, Int.reduceToNat, add_ll, pow10_12, pow10_18, pow10_39, pow10_41, pow10_59, pow10_60, mkLst_some, mkTup_some, List.length_cons, List.length_nil, Nat.zero_le, Nat.reduceAdd, Nat.reduceLeDiff, call1, callO1, call2, callO2, call3, callO3, call4, callO4, call5, callO5, call6, callO6, ap1_some, ap2_some, apN_some, apC_some, d1_a, d2_a, dN_a, aNil_a, aCons_a, dC_a, dVar_z, dVar_s, tDt_a, apAnd_t, apAnd_f, apOr_t, apOr_f, dAndT_a, dOrT_a, apNot_some, dNotT_a, apAndV_t, apAndV_f, dAndV_a, apOrV_t, apOrV_f, dOrV_a, apIf_t, apIf_f, dIf_a, apCh_t, apCh_f, apChain_some, dChain_a, apSeq_nx, apSeq_rt, apSeq_ct, apSeq_bk, sSeq_a, apIfS_t, apIfS_f, sIf_a, sNext_a, sCont_a, sBreak_a, apRet_some, sRet_a, apRetO_some, sRetO_a, sRetN_a, getO_z, getO_s, apRetV_some, sRetV_a, ltB_z, ltB_s, okSlot_s, apAsg_some, sAsg_a, dName_ok, apG_some, dgCons_a, dgNil_a, apAsgO_some, sAsgO_a, sApp_a, sSetI_a, apFor_some, sFor_a, dItems_a, dRng1_a, dRng2_a, apEn_some, apEn_tup, dEnum_a, sFrz_a, frzs_nil, frzs_cons, frzI_o, frzI_v, frzI_n, frzI_s, frz1_s, frzAll_nil, frzAll_o, frzAll_v, frzAll_n, peekT_a, apPk_int, apPk_bl, apPk_str, apPk_non, peekF_a, dCall_a, toO_o, dCallO_a, dMake_a, Wd_v, Wd_o, dSl_a, apSl_some, oNone_a, oSome_a, apO_some, add_ii, sub_ii, lt_ii, le_ii, gt_ii, ge_ii, eq_ii, ne_ii, neg_i, not_b, bl_b, tru_b, tru_i, tru_l, tru_t, tru_n, len_l, len_t, len_scr, abs_i, int_i, list_l, list_t, tuple_l, tuple_t, min_ii, max_ii, rev_l, items_l, items_t, iL_len, run_a, outW_rt, outW_nx, List.map_cons, List.map_nil, List.replicate, List.append_nil, List.cons_append, List.nil_append, List.set_cons_zero, List.set_cons_succ, Option.map_some])
local macro_rules | `(tactic| walk_at "zd") => `(tactic| first | ((with_reducible show okSlot _ _ = true); simp only [okSlot_s, ltB_z, ltB_s]; done) | omega | assumption | decide | (simp only [List.length_map, List.length_append, List.length_cons, List.length_nil, List.length_range, List.length_set, List.length_reverse, iL_len, Zc.rowsT_len, Zc.rowsL_len] at *; omega))
local macro_rules | `(tactic| walk_at "zz") => `(tactic| simp (disch := walk_at "zd") only [dgTup2_a, dgTup3_a, Bool.not_true, Bool.not_false, mul_lz, List.flatten_cons, List.flatten_nil, Int.reduceToNat, add_ll, pow10_12, pow10_18, pow10_39, pow10_41, pow10_59, pow10_60, mkLst_some, mkTup_some, List.length_cons, List.length_nil, Nat.zero_le, Nat.reduceAdd, Nat.reduceLeDiff, call1, callO1, call2, callO2, call3, callO3, call4, callO4, call5, callO5, call6, callO6, ap1_some, ap2_some, apN_some, apC_some, d1_a, d2_a, dN_a, aNil_a, aCons_a, dC_a, dVar_z, dVar_s, tDt_a, apAnd_t, apAnd_f, apOr_t, apOr_f, dAndT_a, dOrT_a, apNot_some, dNotT_a, apAndV_t, apAndV_f, dAndV_a, apOrV_t, apOrV_f, dOrV_a, apIf_t, apIf_f, dIf_a, apCh_t, apCh_f, apChain_some, dChain_a, apSeq_nx, apSeq_rt, apSeq_ct, apSeq_bk, sSeq_a, apIfS_t, apIfS_f, sIf_a, sNext_a, sCont_a, sBreak_a, apRet_some, sRet_a, apRetO_some, sRetO_a, sRetN_a, getO_z, getO_s, apRetV_some, sRetV_a, ltB_z, ltB_s, okSlot_s, apAsg_some, sAsg_a, dName_ok, apG_some, dgCons_a, dgNil_a, apAsgO_some, sAsgO_a, sApp_a, sSetI_a, apFor_some, sFor_a, dItems_a, dRng1_a, dRng2_a, apEn_some, apEn_tup, dEnum_a, sFrz_a, frzs_nil, frzs_cons, frzI_o, frzI_v, frzI_n, frzI_s, frz1_s, frzAll_nil, frzAll_o, frzAll_v, frzAll_n, peekT_a, apPk_int, apPk_bl, apPk_str, apPk_non, peekF_a, dCall_a, toO_o, dCallO_a, dMake_a, Wd_v, Wd_o, dSl_a, apSl_some, oNone_a, oSome_a, apO_some, add_ii, sub_ii, lt_ii, le_ii, gt_ii, ge_ii, eq_ii, ne_ii, neg_i, not_b, bl_b, tru_b, tru_i, tru_l, tru_t, tru_n, len_l, len_t, len_scr, abs_i, int_i, list_l, list_t, tuple_l, tuple_t, min_ii, max_ii, rev_l, items_l, items_t, iL_len, run_a, outW_rt, outW_nx, List.map_cons, List.map_nil, List.replicate, List.append_nil, List.cons_append, List.nil_append, List.set_cons_zero, List.set_cons_succ, Option.map_some, Int.reduceAdd, Int.reduceMul, Int.reduceSub, Int.reduceNeg, beq_self_eq_true, Bool.or_false, Bool.false_or, Bool.true_or, Bool.or_true, Bool.and_false, Bool.false_and, Bool.true_and, Bool.and_true, Zc.isi_ii, Zc.isi_ib, Zc.isi_tt, Zc.isi_ll, Zc.rowsT_len, Zc.rowsL_len, Zc.is_integer_call, Zc.ix_p0, Zc.ix_p1, apR1_any, Int.toNat_natCast, apR2_some, mod_ii, fdiv_ii, mul_small, apApp_some, ix_at, ix_atT, ix_atI, ix_atIT, ix_atR, ix_atRT, List.length_map, List.length_append, List.length_range, List.length_set, Option.map_none, Option.map_map, decide_true, decide_false, peekO_a, apPkO_i, frz_wo, frz_wv, frz_kk, wipeG_nil, wipeG_cons, orB_s, orB_t, orB_f, andB_s, andB_t, andB_f, orV_s, orV_t, orV_f, andV_s, andV_t, andV_f, apOr_b, apAnd_b, apOrV_b, apAndV_b, apCh_b, Zc.cut_from, Zc.cut_to, in_l, in_t, in_pr, eq_op_op, eq_op_pr, eq_pr_op, eq_pr_pr, ne_op_op, ne_op_pr, ne_pr_op, ne_pr_pr, isnt_op, is_op, pr_0, pr_1, st_0, st_1, inP_pr, ninP_pr, nin_l, isi_prt, len_pr, op_some, prD_eq, ix_lit2, ix_lit3, ix_lit4, ix_lit5, ix_lit6, ix_lit7, ix_lit8, ix_lit9, ix_lit10, ix_lit11, ix_lit12, ix_lit13, ix_lit14, ix_lit15, setI_i, setI_p, setI_o, setI_n, snoc_i, snoc_r, snoc_p, snoc_n, snoc_o, snoc_pp, snoc_s, eq_ol, ne_ol, eq_pl, ne_pl, eq_sl, ne_sl, eq_il, ne_il, eq_rl, ne_rl, eq_il1, isi_bb, eq_bb, ne_bb, eq_self, lit, dM1_a, apM1_S, dM0_a, apM0_S, Bool.not_true, Bool.not_false, dSlS_w, apSl_s, Int.reduceBEq, Rk.is_tn, Rk.is_nn, isi_st, isi_stt, isi_is, isi_itt, isi_ts, Rk.isi_tt, Rk.isi_call, scall, pk_S, sD0, is_nS, isnt_nS, isnt_nn, neg1, dAddO1, apAddO_l, addOL1, apAddL_l, addL_l, eq_picture_erase, eq_picture_picture, eq_picture_put, eq_picture_cap, eq_put_erase, eq_put_picture, eq_put_put, eq_put_cap, eq_erase_erase, eq_erase_picture, eq_erase_put, eq_erase_cap, eq_deal_erase, eq_deal_picture, eq_deal_put, eq_deal_cap, eq_cap_erase, eq_cap_picture, eq_cap_put, eq_cap_cap, ix2_0, ix2_1, ix2_m, ix3_0, ix3_1, ix3_2, ix3_m, ix4_0, ix4_1, ix4_2, ix4_3, ix4_m])
local macro_rules | `(tactic| walk_at "zf") => `(tactic| first | (walk_at "zz"; done) | (walk_at "zz"; rfl) | rfl)
local macro_rules | `(tactic| walk_at "lc") => `(tactic| ((case hf => rfl); (case hi => first | (walk_at "zz"; done) | (walk_at "zz"; rfl) | rfl); (case hl => walk_at "zd"); (case h => (intro a ha; refine ⟨_, dName_ok rfl, ?_, fun hT => ?_⟩ <;> walk_at "zz" <;> rfl))))
local macro_rules | `(tactic| walk_at "lm") => `(tactic| ((case hf => rfl); (case hi => first | (walk_at "zz"; done) | (walk_at "zz"; rfl) | rfl); (case hl => walk_at "zd"); (case h => (intro a ha; refine ⟨_, dName_ok rfl, ?_⟩; walk_at "zz"; rfl))))
def lrest : SF := (sSeq (sFrz [2] (sAsgO (dLc (dItems (dVar 2)) (dName 9) dYes (d2 ixD (dVar 9) (dC (.int 0))) [9]) 6))
 (sSeq (sIf (peekT (dOrT (dNotT (tDt truD (dCall 2 (g_law_reads) (aCons (dVar 6) (aCons (dVar 2) aNil))))) (dNotT (tDt truD (dCall 2 (g_law_reads) (aCons (dVar 6) (aCons (dVar 2) aNil)))))))
 (sRet (dC (.bl false)))
 sNext)
 (sSeq (sAsg (peekF (d2 modD (dN intD (aCons (d2 ixD (dVar 5) (dC (.int 0))) aNil)) (d2 addD (dN lenD (aCons (dVar 2) aNil)) (dC (.int 1))))) (dName 7))
 (sSeq (sIf (peekT (dNotT (tDt truD (dCall 2 (g_law_reads) (aCons (dLc (dItems (dSl (dVar 2) oNone (oSome (dVar 7)))) (dName 9) dYes (d2 ixD (dVar 9) (dC (.int 0))) [9]) (aCons (dSl (dVar 2) oNone (oSome (dVar 7))) aNil))))))
 (sRet (dC (.bl false)))
 sNext)
 (sSeq (sAsg (dCall 4 (g_law_small) (aCons (dVar 5) (aCons (dC (.int 3)) (aCons (dC (.bl true)) (aCons (dVar 1) aNil))))) (dName 8))
 (sSeq (sApp 6 (dCall 1 (g_law_text_of) (aCons (dVar 8) aNil)))
 (sRet (peekF (dCall 2 (g_law_reads) (aCons (dVar 6) (aCons (d2 addD (dVar 2) (dN mkLst (aCons (dN mkTup (aCons (dCall 1 (g_law_text_of) (aCons (dVar 8) aNil)) (aCons (dVar 8) aNil))) aNil))) aNil)))))))))))
theorem rest_spec {sc bf : D} {W : Ws} {k4 : Option D} {ds : List Int} (B : ∀ j : Nat, j < 15 → 0 ≤ at_ ds (3 + (j : Int)) ∧ at_ ds (3 + (j : Int)) < at_ szs (j : Int)) (hdl : 18 ≤ ds.length) (b0 : 0 ≤ at_ ds 0 ∧ at_ ds 0 < 840) (n2 : W.length = 4) (n3 : ∀ w ∈ W, isName w = true) {S : List Sg} (hS : S.length ≤ 100) (hs : ∀ s ∈ S, Str1 s.1 s.2) :
    outW (lrest [some (.v sc), some (.v (.lst (W.map dS))), some (.v (.lst (S.map sD))), some (.v bf), k4.map Wd.v, some (.v (.lst (iL ds))), none, none, none, none]) = some (.v (.bl true)) := by
  unfold lrest
  have ok : ∀ X : List Sg, X.length ≤ 110 → (∀ s ∈ X, Str1 s.1 s.2) → Ok X := fun X h1 h2 => ⟨h1, h2⟩
  have eL : ∀ X : List Sg, X.map (fun s : Sg => dS s.1) = (X.map (·.1)).map dS := fun X => by rw [List.map_map]; rfl
  walk_at "zz"
  rewrite [dLc_map sD (xs := S) (F := fun s => dS s.1)]
  case hf => cases k4 <;> rfl
  case hi => walk_at "zz"
  case hl => omega
  case h =>
    intro s m
    refine ⟨_, dName_ok rfl, ?_⟩
    walk_at "zz"
  rw [eL]
  have hr := reads_spec (ok S (by omega) hs)
  unfold logD at hr
  walk_at "zz"
  rw [hr]
  walk_at "zz"
  obtain ⟨m, hm, hm1⟩ : ∃ m : Nat, at_ ds 0 % ((S.length : Nat) + 1 : Int) = (m : Int) ∧ m ≤ S.length := by
    have h1 := Int.emod_nonneg (at_ ds 0) (show (((S.length : Nat) + 1 : Int)) ≠ 0 by omega)
    have h2 := Int.emod_lt_of_pos (at_ ds 0) (show (0 : Int) < ((S.length : Nat) + 1 : Int) by omega)
    exact ⟨(at_ ds 0 % ((S.length : Nat) + 1 : Int)).toNat, by omega, by omega⟩
  rw [hr]
  walk_at "zz"
  rw [hm]
  walk_at "zz"
  rewrite [dLc_map sD (xs := S.take m) (F := fun s => dS s.1)]
  case hf => cases k4 <;> rfl
  case hi =>
    walk_at "zz"
    rw [List.map_take]
  case hl => rw [List.length_take]; omega
  case h =>
    intro s m
    refine ⟨_, dName_ok rfl, ?_⟩
    walk_at "zz"
  rw [eL]
  have hr2 := reads_spec (ok (S.take m) (by rw [List.length_take]; omega) fun s h => hs s (List.mem_of_mem_take h))
  unfold logD at hr2
  walk_at "zz"
  rw [← List.map_take, hr2]
  walk_at "zz"
  obtain ⟨r, s1, s2, s3⟩ := small_spec (ds := ds) (k := 3) (b := true) (W := W) (by decide) (by omega) B n2 n3
  rw [s1]
  have hlen : ((S.map (·.1)).map dS).length + 1 ≤ 100000 := by rw [List.length_map, List.length_map]; omega
  walk_at "zz"
  rw [text_of_spec s2]
  walk_at "zz"
  have e1 : (S.map (·.1)).map dS ++ [dS (textOf r)] = ((S ++ [(textOf r, some r)]).map (·.1)).map dS := by rw [List.map_append, List.map_append]; rfl
  have e2 : S.map sD ++ [D.tup [dS (textOf r), recD r]] = (S ++ [(textOf r, some r)]).map sD := by rw [List.map_append]; rfl
  rw [e1]
  have hr3 := reads_spec (ok (S ++ [(textOf r, some r)]) (by rw [List.length_append]; simp; omega) fun s m => by
    rcases List.mem_append.mp m with m | m
    · exact hs s m
    · rw [List.mem_singleton.mp m]; exact str_some s2)
  unfold logD at hr3
  rw [text_of_spec s2]
  have e3 : addD (.lst (S.map sD)) (.lst [.tup [dS (textOf r), recD r]]) = some (.lst ((S ++ [(textOf r, some r)]).map sD)) := by
    rw [add_L (by rw [List.length_map]; simp; omega), e2]
  generalize (S ++ [(textOf r, some r)]).map sD = U at e3 hr3
  generalize ((S ++ [(textOf r, some r)]).map (·.1)).map dS = V at hr3 ⊢
  show outW (apRet (apPk (apCall 2 g_law_reads (apC (some (D.lst V)) (apC (addD (.lst (S.map sD)) (.lst [.tup [dS (textOf r), recD r]])) (some [])))))) = _
  rw [e3]
  walk_at "zz"
  rw [hr3]
  walk_at "zz"
theorem main : ∀ (c : Cs) (ns : List Int), ns.length ≤ 63 → g_law [.scr ns] = some (.v (.bl true)) := by
  intro c ns hl
  unfold g_law t_law
  walk_at "zz"
  obtain ⟨c0, e0⟩ := cell_any ns 0 (by decide) hl
  rw [e0]
  walk_at "zz"
  obtain ⟨W, n1, n2, n3⟩ := names_spec c0
  rw [e_law_names, n1]
  walk_at "zz"
  obtain ⟨n, hn, hn3, hn9⟩ : ∃ n : Nat, (if (if ((ns.length : Nat) : Int) - 1 > 3 then ((ns.length : Nat) : Int) - 1 else 3) < 9 then if ((ns.length : Nat) : Int) - 1 > 3 then ((ns.length : Nat) : Int) - 1 else 3 else 9).toNat = n ∧ 3 ≤ n ∧ n ≤ 9 := by
    refine ⟨_, rfl, ?_, ?_⟩ <;> (split <;> split <;> omega)
  rw [hn]
  refine rng_then (C := fun o => outW o = some (.v (.bl true))) (fun i g => ∃ (S : List Sg) (bf : D) (k4 : Option D), g = [some (.v (.scr ns)), some (.v (.lst (W.map dS))), some (.o (.lst (S.map sD))), some (.v bf), k4.map Wd.v, none, none, none, none, none] ∧ S.length = i ∧ (∀ s ∈ S, Str1 s.1 s.2) ∧ (bf = .non ∨ ∃ b, bf = dS b ∧ asc b = true ∧ b.length ≤ 640)) ?_ ?_ ?_ ?_
  · exact ⟨[], .non, none, rfl, rfl, fun s m => (by cases m), .inl rfl⟩
  · rintro i g ⟨S, bf, k4, rfl, _⟩
    cases k4 <;> rfl
  · rintro i g hi ⟨S, bf, k4, rfl, hS, hs, hb⟩
    show StepTo (sSeq _ _ [some (.v (.scr ns)), some (.v (.lst (W.map dS))), some (.o (.lst (S.map sD))), some (.v bf), some (.v (.int (i : Int))), none, none, none, none, none]) _
    have hlen : (S.map sD).length + 1 ≤ 100000 := by rw [List.length_map]; omega
    obtain ⟨c1, e1⟩ := cell_any ns (1 + (i : Int)) (by omega) hl
    obtain ⟨t, o, s1, s2⟩ := string_spec (c1 + 5 * (i : Int)) n2 n3 hb
    walk_at "zz"
    rw [e1]
    walk_at "zz"
    rw [s1]
    walk_at "zz"
    have e2 : S.map sD ++ [D.tup [dS t, oD recD o]] = (S ++ [(t, o)]).map sD := by rw [List.map_append]; rfl
    have e3 : ixD (.lst ((S ++ [(t, o)]).map sD)) (.int (i : Int)) = some (sD (t, o)) := by
      rw [List.map_append]
      have h := at_nat (a := S.map sD ++ [(t, o)].map sD) (n := i) (by rw [List.length_append, List.length_map]; simp; omega)
      have h2 : (S.map sD ++ [(t, o)].map sD)[i]'(by rw [List.length_append, List.length_map]; simp; omega) = sD (t, o) := by
        rw [List.getElem_append_right (by rw [List.length_map]; omega)]
        simp [hS]
      exact h.trans (congrArg some h2)
    rw [e2, e3]
    walk_at "zz"
    refine step_nx ⟨S ++ [(t, o)], dS t, some (.int (i : Int)), rfl, by rw [List.length_append, hS]; rfl, fun s m => ?_, .inr ⟨t, rfl, s2.1, s2.2.1⟩⟩
    rcases List.mem_append.mp m with m | m
    · exact hs s m
    · rw [List.mem_singleton.mp m]; exact s2
  · rintro g ⟨S, bf, k4, rfl, hS, hs, hb⟩
    obtain ⟨c1, e1⟩ := cell_any ns 10 (by decide) hl
    walk_at "zz"
    rw [e1]
    walk_at "zz"
    obtain ⟨w, e, ds, rfl, hd⟩ := Zc.draws_spec (c1 + 3) [840, 8, 840, 5, 4, 4, 4, 3, 900, 90, 3, 900, 5, 5, 5, 5, 4, 40] (by intro s hs; simp only [List.mem_cons, List.not_mem_nil, or_false] at hs; omega) (show (18 : Nat) ≤ 1000 by decide)
    rw [show ([.int 840, .int 8, .int 840, .int 5, .int 4, .int 4, .int 4, .int 3, .int 900, .int 90, .int 3, .int 900, .int 5, .int 5, .int 5, .int 5, .int 4, .int 40] : List D) = iL [840, 8, 840, 5, 4, 4, 4, 3, 900, 90, 3, 900, 5, 5, 5, 5, 4, 40] from rfl, e_law_draws, e]
    have hdl : ds.length = 18 := hd.len
    have b0 := hd.at (k := 0) (s := 840) (by decide) rfl
    have b2 := hd.at (k := 2) (s := 840) (by decide) rfl
    have B : ∀ j : Nat, j < 15 → 0 ≤ at_ ds (3 + (j : Int)) ∧ at_ ds (3 + (j : Int)) < at_ szs (j : Int) := fun j hj => hd.at (k := 3 + (j : Int)) (s := at_ szs (j : Int)) (by omega) (by
      rw [show (3 + (j : Int)).toNat = 3 + j by omega]
      match j, hj with
      | 0, _ => rfl
      | 1, _ => rfl
      | 2, _ => rfl
      | 3, _ => rfl
      | 4, _ => rfl
      | 5, _ => rfl
      | 6, _ => rfl
      | 7, _ => rfl
      | 8, _ => rfl
      | 9, _ => rfl
      | 10, _ => rfl
      | 11, _ => rfl
      | 12, _ => rfl
      | 13, _ => rfl
      | 14, _ => rfl)
    have fin : ∀ S' : List Sg, S'.length ≤ 100 → (∀ s ∈ S', Str1 s.1 s.2) → outW (lrest [some (.v (.scr ns)), some (.v (.lst (W.map dS))), some (.v (.lst (S'.map sD))), some (.v bf), k4.map Wd.v, some (.v (.lst (iL ds))), none, none, none, none]) = some (.v (.bl true)) := fun S' hS' hs' => rest_spec B (by omega) b0 n2 n3 hS' hs'
    walk_at "zz"
    cases (at_ ds 1 == 7)
    · have h := fin S (by omega) hs
      walk_at "zz"
      exact h
    · walk_at "zz"
      obtain ⟨m, hm, hm1⟩ : ∃ m : Nat, at_ ds 2 % ((S.length : Nat) : Int) = (m : Int) ∧ m < S.length := by
        have h1 := Int.emod_nonneg (at_ ds 2) (show (((S.length : Nat) : Int)) ≠ 0 by omega)
        have h2 := Int.emod_lt_of_pos (at_ ds 2) (show (0 : Int) < ((S.length : Nat) : Int) by omega)
        exact ⟨(at_ ds 2 % ((S.length : Nat) : Int)).toNat, by omega, by omega⟩
      have e1 : ixD (.lst (S.map sD)) (.int (m : Int)) = some (sD (at_ S (m : Int))) := ix_at (by omega) (by omega)
      have hmem : at_ S (m : Int) ∈ S := at_mem (by omega) (by omega)
      rw [hm, e1]
      generalize at_ S (m : Int) = s0 at hmem
      have e2 : mulD (.lst [sD s0]) (.int 90) = some (.lst ((List.replicate 90 s0).map sD)) := rfl
      have h := fin (S ++ List.replicate 90 s0) (by rw [List.length_append, List.length_replicate]; omega) fun s m => by
        rcases List.mem_append.mp m with m | m
        · exact hs s m
        · rw [List.eq_of_mem_replicate m]; exact hs s0 hmem
      have e3 : addD (.lst (S.map sD)) (.lst ((List.replicate 90 s0).map sD)) = some (.lst ((S ++ List.replicate 90 s0).map sD)) := by
        rw [add_L (by rw [List.length_map, List.length_map, List.length_replicate]; omega), List.map_append]
      generalize (List.replicate 90 s0).map sD = V at e2 e3
      generalize (S ++ List.replicate 90 s0).map sD = U at e3 h
      show outW (apSeq (apAsg (ap2 addD (some (D.lst (List.map sD S))) (mulD (.lst [sD s0]) (.int 90))) (dName 2) _) _) = _
      rw [e2]
      show outW (apSeq (apAsg (addD (D.lst (List.map sD S)) (.lst V)) (dName 2) _) _) = _
      rw [e3]
      exact h
end Y
end

section
set_option Elab.async false
set_option linter.all false
set_option maxRecDepth 100000
set_option maxHeartbeats 4000000
namespace Y
open PySem L2 Zk
def spLaw (K : PySem.W.Frag) : Sp := fun vs H Q _ => ∃ (a : Addr) (ns : List Int), vs = [.ref a] ∧ SqL K H a (ns.map V.int) ∧ ns.length ≤ 63 ∧ ∀ H', Q (.bl true) H'
theorem law_sp {P : Program} {w : World} {K : PySem.W.Frag} {mg : Str → Option Value} {base : Heap} (main : ∀ (c : Cs) (ns : List Int), ns.length ≤ 63 → g_law [.scr ns] = some (.v (.bl true))) (T : Txt K mg) : FnOk P w K mg base CX0 11 T.f_law T.fd_law ["script"] (spLaw K) := by
  refine (ok_law (P := P) (w := w) (base := base) T).imp fun vs H Q E h => ?_
  obtain ⟨a, ns, rfl, hS, hl, q⟩ := h
  refine ⟨fun _ => False, [.scr ns], .v (.bl true), rfl, fun _ z => z.elim, .cons ?_ .nil, main T.c ns hl, fun v H' e r => ?_⟩
  · rcases hS with h | h
    · exact .scr (fun z => z) h
    · exact .kscr fun G => .inr h
  · cases r; exact q H'
theorem all_mk {l : PySem.W.OpenLaw} {w : World} {K : PySem.W.Frag} {h : Heap} {mg : Str → Option Value} {fa f_is_name f_is_number f_read_joined f_read_record f_read_log f_log_end f_read_picture f_read_put f_read_deal f_read_cap f_read_name f_read_wardens f_read_warden f_rise f_count f_last_picture f_law_cell f_law_draws f_law_sign f_law_is_integer f_law_names f_law_alike f_law_join f_law_text_of f_law_sizes f_law_small f_law_other f_law_string f_law_counted f_law_reads f_law : Addr} (main : ∀ (c : Cs) (ns : List Int), ns.length ≤ 63 → g_law [.scr ns] = some (.v (.bl true))) (X : K.In h) (G : h.Ns mainGlobals mg) (hfa : mg "law" = some (.ref fa))
    {oc_is_name kV_is_name dc_is_name pm_is_name cd_is_name ct_is_name : Value} {od_is_name an_is_name : Option Addr} {sl_is_name : Array (Option Value)}
    {oc_is_number kV_is_number dc_is_number pm_is_number cd_is_number ct_is_number : Value} {od_is_number an_is_number : Option Addr} {sl_is_number : Array (Option Value)}
    {oc_read_joined kV_read_joined dc_read_joined pm_read_joined cd_read_joined ct_read_joined : Value} {od_read_joined an_read_joined : Option Addr} {sl_read_joined : Array (Option Value)}
    {oc_read_record kV_read_record dc_read_record pm_read_record cd_read_record ct_read_record : Value} {od_read_record an_read_record : Option Addr} {sl_read_record : Array (Option Value)}
    {oc_read_log kV_read_log dc_read_log pm_read_log cd_read_log ct_read_log : Value} {od_read_log an_read_log : Option Addr} {sl_read_log : Array (Option Value)}
    {oc_log_end kV_log_end dc_log_end pm_log_end cd_log_end ct_log_end : Value} {od_log_end an_log_end : Option Addr} {sl_log_end : Array (Option Value)}
    {oc_read_picture kV_read_picture dc_read_picture pm_read_picture cd_read_picture ct_read_picture : Value} {od_read_picture an_read_picture : Option Addr} {sl_read_picture : Array (Option Value)}
    {oc_read_put kV_read_put dc_read_put pm_read_put cd_read_put ct_read_put : Value} {od_read_put an_read_put : Option Addr} {sl_read_put : Array (Option Value)}
    {oc_read_deal kV_read_deal dc_read_deal pm_read_deal cd_read_deal ct_read_deal : Value} {od_read_deal an_read_deal : Option Addr} {sl_read_deal : Array (Option Value)}
    {oc_read_cap kV_read_cap dc_read_cap pm_read_cap cd_read_cap ct_read_cap : Value} {od_read_cap an_read_cap : Option Addr} {sl_read_cap : Array (Option Value)}
    {oc_read_name kV_read_name dc_read_name pm_read_name cd_read_name ct_read_name : Value} {od_read_name an_read_name : Option Addr} {sl_read_name : Array (Option Value)}
    {oc_read_wardens kV_read_wardens dc_read_wardens pm_read_wardens cd_read_wardens ct_read_wardens : Value} {od_read_wardens an_read_wardens : Option Addr} {sl_read_wardens : Array (Option Value)}
    {oc_read_warden kV_read_warden dc_read_warden pm_read_warden cd_read_warden ct_read_warden : Value} {od_read_warden an_read_warden : Option Addr} {sl_read_warden : Array (Option Value)}
    {oc_rise kV_rise dc_rise pm_rise cd_rise ct_rise : Value} {od_rise an_rise : Option Addr} {sl_rise : Array (Option Value)}
    {oc_count kV_count dc_count pm_count cd_count ct_count : Value} {od_count an_count : Option Addr} {sl_count : Array (Option Value)}
    {oc_last_picture kV_last_picture dc_last_picture pm_last_picture cd_last_picture ct_last_picture : Value} {od_last_picture an_last_picture : Option Addr} {sl_last_picture : Array (Option Value)}
    {oc_law_cell kV_law_cell dc_law_cell pm_law_cell cd_law_cell ct_law_cell : Value} {od_law_cell an_law_cell : Option Addr} {sl_law_cell : Array (Option Value)}
    {oc_law_draws kV_law_draws dc_law_draws pm_law_draws cd_law_draws ct_law_draws : Value} {od_law_draws an_law_draws : Option Addr} {sl_law_draws : Array (Option Value)}
    {oc_law_sign kV_law_sign dc_law_sign pm_law_sign cd_law_sign ct_law_sign : Value} {od_law_sign an_law_sign : Option Addr} {sl_law_sign : Array (Option Value)}
    {oc_law_is_integer kV_law_is_integer dc_law_is_integer pm_law_is_integer cd_law_is_integer ct_law_is_integer : Value} {od_law_is_integer an_law_is_integer : Option Addr} {sl_law_is_integer : Array (Option Value)}
    {oc_law_names kV_law_names dc_law_names pm_law_names cd_law_names ct_law_names : Value} {od_law_names an_law_names : Option Addr} {sl_law_names : Array (Option Value)}
    {oc_law_alike kV_law_alike dc_law_alike pm_law_alike cd_law_alike ct_law_alike : Value} {od_law_alike an_law_alike : Option Addr} {sl_law_alike : Array (Option Value)}
    {oc_law_join kV_law_join dc_law_join pm_law_join cd_law_join ct_law_join : Value} {od_law_join an_law_join : Option Addr} {sl_law_join : Array (Option Value)}
    {oc_law_text_of kV_law_text_of dc_law_text_of pm_law_text_of cd_law_text_of ct_law_text_of : Value} {od_law_text_of an_law_text_of : Option Addr} {sl_law_text_of : Array (Option Value)}
    {oc_law_sizes kV_law_sizes dc_law_sizes pm_law_sizes cd_law_sizes ct_law_sizes : Value} {od_law_sizes an_law_sizes : Option Addr} {sl_law_sizes : Array (Option Value)}
    {oc_law_small kV_law_small dc_law_small pm_law_small cd_law_small ct_law_small : Value} {od_law_small an_law_small : Option Addr} {sl_law_small : Array (Option Value)}
    {oc_law_other kV_law_other dc_law_other pm_law_other cd_law_other ct_law_other : Value} {od_law_other an_law_other : Option Addr} {sl_law_other : Array (Option Value)}
    {oc_law_string kV_law_string dc_law_string pm_law_string cd_law_string ct_law_string : Value} {od_law_string an_law_string : Option Addr} {sl_law_string : Array (Option Value)}
    {oc_law_counted kV_law_counted dc_law_counted pm_law_counted cd_law_counted ct_law_counted : Value} {od_law_counted an_law_counted : Option Addr} {sl_law_counted : Array (Option Value)}
    {oc_law_reads kV_law_reads dc_law_reads pm_law_reads cd_law_reads ct_law_reads : Value} {od_law_reads an_law_reads : Option Addr} {sl_law_reads : Array (Option Value)}
    {oc_law kV_law dc_law pm_law cd_law ct_law : Value} {od_law an_law : Option Addr} {sl_law : Array (Option Value)}
    (z_abs : PySem.W.nsIn K mainGlobals "abs" = some none)
    (z_all : PySem.W.nsIn K mainGlobals "all" = some none)
    (z_bool : PySem.W.nsIn K mainGlobals "bool" = some none)
    (z_int : PySem.W.nsIn K mainGlobals "int" = some none)
    (z_isinstance : PySem.W.nsIn K mainGlobals "isinstance" = some none)
    (z_len : PySem.W.nsIn K mainGlobals "len" = some none)
    (z_list : PySem.W.nsIn K mainGlobals "list" = some none)
    (z_max : PySem.W.nsIn K mainGlobals "max" = some none)
    (z_min : PySem.W.nsIn K mainGlobals "min" = some none)
    (z_range : PySem.W.nsIn K mainGlobals "range" = some none)
    (z_reversed : PySem.W.nsIn K mainGlobals "reversed" = some none)
    (z_sorted : PySem.W.nsIn K mainGlobals "sorted" = some none)
    (z_str : PySem.W.nsIn K mainGlobals "str" = some none)
    (z_tuple : PySem.W.nsIn K mainGlobals "tuple" = some none)
    (z_zip : PySem.W.nsIn K mainGlobals "zip" = some none)
    (a_is_name : PySem.W.nsIn K mainGlobals "is_name" = some (some (.ref f_is_name)))
    (l_is_name : K.lookup f_is_name = some ⟨oc_is_name, od_is_name, .func (PySem.W.fnOf "is_name" "is_name" (defArgs s_is_name) (defBody s_is_name) (defScope s_is_name) .none kV_is_name dc_is_name pm_is_name an_is_name cd_is_name ct_is_name), sl_is_name⟩)
    (c_is_name : PySem.W.codeIn K cd_is_name "is_name" = true)
    (k_is_name : PySem.W.keepIn K (.ref f_is_name) = true)
    (a_is_number : PySem.W.nsIn K mainGlobals "is_number" = some (some (.ref f_is_number)))
    (l_is_number : K.lookup f_is_number = some ⟨oc_is_number, od_is_number, .func (PySem.W.fnOf "is_number" "is_number" (defArgs s_is_number) (defBody s_is_number) (defScope s_is_number) .none kV_is_number dc_is_number pm_is_number an_is_number cd_is_number ct_is_number), sl_is_number⟩)
    (c_is_number : PySem.W.codeIn K cd_is_number "is_number" = true)
    (k_is_number : PySem.W.keepIn K (.ref f_is_number) = true)
    (a_read_joined : PySem.W.nsIn K mainGlobals "read_joined" = some (some (.ref f_read_joined)))
    (l_read_joined : K.lookup f_read_joined = some ⟨oc_read_joined, od_read_joined, .func (PySem.W.fnOf "read_joined" "read_joined" (defArgs s_read_joined) (defBody s_read_joined) (defScope s_read_joined) .none kV_read_joined dc_read_joined pm_read_joined an_read_joined cd_read_joined ct_read_joined), sl_read_joined⟩)
    (c_read_joined : PySem.W.codeIn K cd_read_joined "read_joined" = true)
    (k_read_joined : PySem.W.keepIn K (.ref f_read_joined) = true)
    (a_read_record : PySem.W.nsIn K mainGlobals "read_record" = some (some (.ref f_read_record)))
    (l_read_record : K.lookup f_read_record = some ⟨oc_read_record, od_read_record, .func (PySem.W.fnOf "read_record" "read_record" (defArgs s_read_record) (defBody s_read_record) (defScope s_read_record) .none kV_read_record dc_read_record pm_read_record an_read_record cd_read_record ct_read_record), sl_read_record⟩)
    (c_read_record : PySem.W.codeIn K cd_read_record "read_record" = true)
    (k_read_record : PySem.W.keepIn K (.ref f_read_record) = true)
    (a_read_log : PySem.W.nsIn K mainGlobals "read_log" = some (some (.ref f_read_log)))
    (l_read_log : K.lookup f_read_log = some ⟨oc_read_log, od_read_log, .func (PySem.W.fnOf "read_log" "read_log" (defArgs s_read_log) (defBody s_read_log) (defScope s_read_log) .none kV_read_log dc_read_log pm_read_log an_read_log cd_read_log ct_read_log), sl_read_log⟩)
    (c_read_log : PySem.W.codeIn K cd_read_log "read_log" = true)
    (k_read_log : PySem.W.keepIn K (.ref f_read_log) = true)
    (a_log_end : PySem.W.nsIn K mainGlobals "log_end" = some (some (.ref f_log_end)))
    (l_log_end : K.lookup f_log_end = some ⟨oc_log_end, od_log_end, .func (PySem.W.fnOf "log_end" "log_end" (defArgs s_log_end) (defBody s_log_end) (defScope s_log_end) .none kV_log_end dc_log_end pm_log_end an_log_end cd_log_end ct_log_end), sl_log_end⟩)
    (c_log_end : PySem.W.codeIn K cd_log_end "log_end" = true)
    (k_log_end : PySem.W.keepIn K (.ref f_log_end) = true)
    (a_read_picture : PySem.W.nsIn K mainGlobals "_read_picture" = some (some (.ref f_read_picture)))
    (l_read_picture : K.lookup f_read_picture = some ⟨oc_read_picture, od_read_picture, .func (PySem.W.fnOf "_read_picture" "_read_picture" (defArgs s_read_picture) (defBody s_read_picture) (defScope s_read_picture) .none kV_read_picture dc_read_picture pm_read_picture an_read_picture cd_read_picture ct_read_picture), sl_read_picture⟩)
    (c_read_picture : PySem.W.codeIn K cd_read_picture "_read_picture" = true)
    (k_read_picture : PySem.W.keepIn K (.ref f_read_picture) = true)
    (a_read_put : PySem.W.nsIn K mainGlobals "_read_put" = some (some (.ref f_read_put)))
    (l_read_put : K.lookup f_read_put = some ⟨oc_read_put, od_read_put, .func (PySem.W.fnOf "_read_put" "_read_put" (defArgs s_read_put) (defBody s_read_put) (defScope s_read_put) .none kV_read_put dc_read_put pm_read_put an_read_put cd_read_put ct_read_put), sl_read_put⟩)
    (c_read_put : PySem.W.codeIn K cd_read_put "_read_put" = true)
    (k_read_put : PySem.W.keepIn K (.ref f_read_put) = true)
    (a_read_deal : PySem.W.nsIn K mainGlobals "_read_deal" = some (some (.ref f_read_deal)))
    (l_read_deal : K.lookup f_read_deal = some ⟨oc_read_deal, od_read_deal, .func (PySem.W.fnOf "_read_deal" "_read_deal" (defArgs s_read_deal) (defBody s_read_deal) (defScope s_read_deal) .none kV_read_deal dc_read_deal pm_read_deal an_read_deal cd_read_deal ct_read_deal), sl_read_deal⟩)
    (c_read_deal : PySem.W.codeIn K cd_read_deal "_read_deal" = true)
    (k_read_deal : PySem.W.keepIn K (.ref f_read_deal) = true)
    (a_read_cap : PySem.W.nsIn K mainGlobals "_read_cap" = some (some (.ref f_read_cap)))
    (l_read_cap : K.lookup f_read_cap = some ⟨oc_read_cap, od_read_cap, .func (PySem.W.fnOf "_read_cap" "_read_cap" (defArgs s_read_cap) (defBody s_read_cap) (defScope s_read_cap) .none kV_read_cap dc_read_cap pm_read_cap an_read_cap cd_read_cap ct_read_cap), sl_read_cap⟩)
    (c_read_cap : PySem.W.codeIn K cd_read_cap "_read_cap" = true)
    (k_read_cap : PySem.W.keepIn K (.ref f_read_cap) = true)
    (a_read_name : PySem.W.nsIn K mainGlobals "_read_name" = some (some (.ref f_read_name)))
    (l_read_name : K.lookup f_read_name = some ⟨oc_read_name, od_read_name, .func (PySem.W.fnOf "_read_name" "_read_name" (defArgs s_read_name) (defBody s_read_name) (defScope s_read_name) .none kV_read_name dc_read_name pm_read_name an_read_name cd_read_name ct_read_name), sl_read_name⟩)
    (c_read_name : PySem.W.codeIn K cd_read_name "_read_name" = true)
    (k_read_name : PySem.W.keepIn K (.ref f_read_name) = true)
    (a_read_wardens : PySem.W.nsIn K mainGlobals "_read_wardens" = some (some (.ref f_read_wardens)))
    (l_read_wardens : K.lookup f_read_wardens = some ⟨oc_read_wardens, od_read_wardens, .func (PySem.W.fnOf "_read_wardens" "_read_wardens" (defArgs s_read_wardens) (defBody s_read_wardens) (defScope s_read_wardens) .none kV_read_wardens dc_read_wardens pm_read_wardens an_read_wardens cd_read_wardens ct_read_wardens), sl_read_wardens⟩)
    (c_read_wardens : PySem.W.codeIn K cd_read_wardens "_read_wardens" = true)
    (k_read_wardens : PySem.W.keepIn K (.ref f_read_wardens) = true)
    (a_read_warden : PySem.W.nsIn K mainGlobals "_read_warden" = some (some (.ref f_read_warden)))
    (l_read_warden : K.lookup f_read_warden = some ⟨oc_read_warden, od_read_warden, .func (PySem.W.fnOf "_read_warden" "_read_warden" (defArgs s_read_warden) (defBody s_read_warden) (defScope s_read_warden) .none kV_read_warden dc_read_warden pm_read_warden an_read_warden cd_read_warden ct_read_warden), sl_read_warden⟩)
    (c_read_warden : PySem.W.codeIn K cd_read_warden "_read_warden" = true)
    (k_read_warden : PySem.W.keepIn K (.ref f_read_warden) = true)
    (a_rise : PySem.W.nsIn K mainGlobals "_rise" = some (some (.ref f_rise)))
    (l_rise : K.lookup f_rise = some ⟨oc_rise, od_rise, .func (PySem.W.fnOf "_rise" "_rise" (defArgs s_rise) (defBody s_rise) (defScope s_rise) .none kV_rise dc_rise pm_rise an_rise cd_rise ct_rise), sl_rise⟩)
    (c_rise : PySem.W.codeIn K cd_rise "_rise" = true)
    (k_rise : PySem.W.keepIn K (.ref f_rise) = true)
    (a_count : PySem.W.nsIn K mainGlobals "_count" = some (some (.ref f_count)))
    (l_count : K.lookup f_count = some ⟨oc_count, od_count, .func (PySem.W.fnOf "_count" "_count" (defArgs s_count) (defBody s_count) (defScope s_count) .none kV_count dc_count pm_count an_count cd_count ct_count), sl_count⟩)
    (c_count : PySem.W.codeIn K cd_count "_count" = true)
    (k_count : PySem.W.keepIn K (.ref f_count) = true)
    (a_last_picture : PySem.W.nsIn K mainGlobals "_last_picture" = some (some (.ref f_last_picture)))
    (l_last_picture : K.lookup f_last_picture = some ⟨oc_last_picture, od_last_picture, .func (PySem.W.fnOf "_last_picture" "_last_picture" (defArgs s_last_picture) (defBody s_last_picture) (defScope s_last_picture) .none kV_last_picture dc_last_picture pm_last_picture an_last_picture cd_last_picture ct_last_picture), sl_last_picture⟩)
    (c_last_picture : PySem.W.codeIn K cd_last_picture "_last_picture" = true)
    (k_last_picture : PySem.W.keepIn K (.ref f_last_picture) = true)
    (a_law_cell : PySem.W.nsIn K mainGlobals "_law_cell" = some (some (.ref f_law_cell)))
    (l_law_cell : K.lookup f_law_cell = some ⟨oc_law_cell, od_law_cell, .func (PySem.W.fnOf "_law_cell" "_law_cell" (defArgs s_law_cell) (defBody s_law_cell) (defScope s_law_cell) .none kV_law_cell dc_law_cell pm_law_cell an_law_cell cd_law_cell ct_law_cell), sl_law_cell⟩)
    (c_law_cell : PySem.W.codeIn K cd_law_cell "_law_cell" = true)
    (k_law_cell : PySem.W.keepIn K (.ref f_law_cell) = true)
    (a_law_draws : PySem.W.nsIn K mainGlobals "_law_draws" = some (some (.ref f_law_draws)))
    (l_law_draws : K.lookup f_law_draws = some ⟨oc_law_draws, od_law_draws, .func (PySem.W.fnOf "_law_draws" "_law_draws" (defArgs s_law_draws) (defBody s_law_draws) (defScope s_law_draws) .none kV_law_draws dc_law_draws pm_law_draws an_law_draws cd_law_draws ct_law_draws), sl_law_draws⟩)
    (c_law_draws : PySem.W.codeIn K cd_law_draws "_law_draws" = true)
    (k_law_draws : PySem.W.keepIn K (.ref f_law_draws) = true)
    (a_law_sign : PySem.W.nsIn K mainGlobals "_law_sign" = some (some (.ref f_law_sign)))
    (l_law_sign : K.lookup f_law_sign = some ⟨oc_law_sign, od_law_sign, .func (PySem.W.fnOf "_law_sign" "_law_sign" (defArgs s_law_sign) (defBody s_law_sign) (defScope s_law_sign) .none kV_law_sign dc_law_sign pm_law_sign an_law_sign cd_law_sign ct_law_sign), sl_law_sign⟩)
    (c_law_sign : PySem.W.codeIn K cd_law_sign "_law_sign" = true)
    (k_law_sign : PySem.W.keepIn K (.ref f_law_sign) = true)
    (a_law_is_integer : PySem.W.nsIn K mainGlobals "_law_is_integer" = some (some (.ref f_law_is_integer)))
    (l_law_is_integer : K.lookup f_law_is_integer = some ⟨oc_law_is_integer, od_law_is_integer, .func (PySem.W.fnOf "_law_is_integer" "_law_is_integer" (defArgs s_law_is_integer) (defBody s_law_is_integer) (defScope s_law_is_integer) .none kV_law_is_integer dc_law_is_integer pm_law_is_integer an_law_is_integer cd_law_is_integer ct_law_is_integer), sl_law_is_integer⟩)
    (c_law_is_integer : PySem.W.codeIn K cd_law_is_integer "_law_is_integer" = true)
    (k_law_is_integer : PySem.W.keepIn K (.ref f_law_is_integer) = true)
    (a_law_names : PySem.W.nsIn K mainGlobals "_law_names" = some (some (.ref f_law_names)))
    (l_law_names : K.lookup f_law_names = some ⟨oc_law_names, od_law_names, .func (PySem.W.fnOf "_law_names" "_law_names" (defArgs s_law_names) (defBody s_law_names) (defScope s_law_names) .none kV_law_names dc_law_names pm_law_names an_law_names cd_law_names ct_law_names), sl_law_names⟩)
    (c_law_names : PySem.W.codeIn K cd_law_names "_law_names" = true)
    (k_law_names : PySem.W.keepIn K (.ref f_law_names) = true)
    (a_law_alike : PySem.W.nsIn K mainGlobals "_law_alike" = some (some (.ref f_law_alike)))
    (l_law_alike : K.lookup f_law_alike = some ⟨oc_law_alike, od_law_alike, .func (PySem.W.fnOf "_law_alike" "_law_alike" (defArgs s_law_alike) (defBody s_law_alike) (defScope s_law_alike) .none kV_law_alike dc_law_alike pm_law_alike an_law_alike cd_law_alike ct_law_alike), sl_law_alike⟩)
    (c_law_alike : PySem.W.codeIn K cd_law_alike "_law_alike" = true)
    (k_law_alike : PySem.W.keepIn K (.ref f_law_alike) = true)
    (a_law_join : PySem.W.nsIn K mainGlobals "_law_join" = some (some (.ref f_law_join)))
    (l_law_join : K.lookup f_law_join = some ⟨oc_law_join, od_law_join, .func (PySem.W.fnOf "_law_join" "_law_join" (defArgs s_law_join) (defBody s_law_join) (defScope s_law_join) .none kV_law_join dc_law_join pm_law_join an_law_join cd_law_join ct_law_join), sl_law_join⟩)
    (c_law_join : PySem.W.codeIn K cd_law_join "_law_join" = true)
    (k_law_join : PySem.W.keepIn K (.ref f_law_join) = true)
    (a_law_text_of : PySem.W.nsIn K mainGlobals "_law_text_of" = some (some (.ref f_law_text_of)))
    (l_law_text_of : K.lookup f_law_text_of = some ⟨oc_law_text_of, od_law_text_of, .func (PySem.W.fnOf "_law_text_of" "_law_text_of" (defArgs s_law_text_of) (defBody s_law_text_of) (defScope s_law_text_of) .none kV_law_text_of dc_law_text_of pm_law_text_of an_law_text_of cd_law_text_of ct_law_text_of), sl_law_text_of⟩)
    (c_law_text_of : PySem.W.codeIn K cd_law_text_of "_law_text_of" = true)
    (k_law_text_of : PySem.W.keepIn K (.ref f_law_text_of) = true)
    (a_law_sizes : PySem.W.nsIn K mainGlobals "_law_sizes" = some (some (.ref f_law_sizes)))
    (l_law_sizes : K.lookup f_law_sizes = some ⟨oc_law_sizes, od_law_sizes, .func (PySem.W.fnOf "_law_sizes" "_law_sizes" (defArgs s_law_sizes) (defBody s_law_sizes) (defScope s_law_sizes) .none kV_law_sizes dc_law_sizes pm_law_sizes an_law_sizes cd_law_sizes ct_law_sizes), sl_law_sizes⟩)
    (c_law_sizes : PySem.W.codeIn K cd_law_sizes "_law_sizes" = true)
    (k_law_sizes : PySem.W.keepIn K (.ref f_law_sizes) = true)
    (a_law_small : PySem.W.nsIn K mainGlobals "_law_small" = some (some (.ref f_law_small)))
    (l_law_small : K.lookup f_law_small = some ⟨oc_law_small, od_law_small, .func (PySem.W.fnOf "_law_small" "_law_small" (defArgs s_law_small) (defBody s_law_small) (defScope s_law_small) .none kV_law_small dc_law_small pm_law_small an_law_small cd_law_small ct_law_small), sl_law_small⟩)
    (c_law_small : PySem.W.codeIn K cd_law_small "_law_small" = true)
    (k_law_small : PySem.W.keepIn K (.ref f_law_small) = true)
    (a_law_other : PySem.W.nsIn K mainGlobals "_law_other" = some (some (.ref f_law_other)))
    (l_law_other : K.lookup f_law_other = some ⟨oc_law_other, od_law_other, .func (PySem.W.fnOf "_law_other" "_law_other" (defArgs s_law_other) (defBody s_law_other) (defScope s_law_other) .none kV_law_other dc_law_other pm_law_other an_law_other cd_law_other ct_law_other), sl_law_other⟩)
    (c_law_other : PySem.W.codeIn K cd_law_other "_law_other" = true)
    (k_law_other : PySem.W.keepIn K (.ref f_law_other) = true)
    (a_law_string : PySem.W.nsIn K mainGlobals "_law_string" = some (some (.ref f_law_string)))
    (l_law_string : K.lookup f_law_string = some ⟨oc_law_string, od_law_string, .func (PySem.W.fnOf "_law_string" "_law_string" (defArgs s_law_string) (defBody s_law_string) (defScope s_law_string) .none kV_law_string dc_law_string pm_law_string an_law_string cd_law_string ct_law_string), sl_law_string⟩)
    (c_law_string : PySem.W.codeIn K cd_law_string "_law_string" = true)
    (k_law_string : PySem.W.keepIn K (.ref f_law_string) = true)
    (a_law_counted : PySem.W.nsIn K mainGlobals "_law_counted" = some (some (.ref f_law_counted)))
    (l_law_counted : K.lookup f_law_counted = some ⟨oc_law_counted, od_law_counted, .func (PySem.W.fnOf "_law_counted" "_law_counted" (defArgs s_law_counted) (defBody s_law_counted) (defScope s_law_counted) .none kV_law_counted dc_law_counted pm_law_counted an_law_counted cd_law_counted ct_law_counted), sl_law_counted⟩)
    (c_law_counted : PySem.W.codeIn K cd_law_counted "_law_counted" = true)
    (k_law_counted : PySem.W.keepIn K (.ref f_law_counted) = true)
    (a_law_reads : PySem.W.nsIn K mainGlobals "_law_reads" = some (some (.ref f_law_reads)))
    (l_law_reads : K.lookup f_law_reads = some ⟨oc_law_reads, od_law_reads, .func (PySem.W.fnOf "_law_reads" "_law_reads" (defArgs s_law_reads) (defBody s_law_reads) (defScope s_law_reads) .none kV_law_reads dc_law_reads pm_law_reads an_law_reads cd_law_reads ct_law_reads), sl_law_reads⟩)
    (c_law_reads : PySem.W.codeIn K cd_law_reads "_law_reads" = true)
    (k_law_reads : PySem.W.keepIn K (.ref f_law_reads) = true)
    (a_law : PySem.W.nsIn K mainGlobals "law" = some (some (.ref f_law)))
    (l_law : K.lookup f_law = some ⟨oc_law, od_law, .func (PySem.W.fnOf "law" "law" (defArgs s_law) (defBody s_law) (defScope s_law) .none kV_law dc_law pm_law an_law cd_law ct_law), sl_law⟩)
    (c_law : PySem.W.codeIn K cd_law "law" = true)
    (k_law : PySem.W.keepIn K (.ref f_law) = true)
    : ∃ fd : FuncData, (∀ (s : Shared) (v : Value), BindsTo s fd ⟨[v], []⟩ [("script", v)]) ∧ ∀ base : Heap, K.In base → base.Ns mainGlobals mg → FnOk l.prog w K mg base CX0 11 fa fd ["script"] (spLaw K) := by
  have e := hfa.symm.trans (PySem.W.mg_of X G a_law)
  cases e
  let T : Txt K mg := { c := ⟨()⟩, m_abs := PySem.W.mg_none_of X G z_abs, m_all := PySem.W.mg_none_of X G z_all, m_bool := PySem.W.mg_none_of X G z_bool, m_int := PySem.W.mg_none_of X G z_int, m_isinstance := PySem.W.mg_none_of X G z_isinstance, m_len := PySem.W.mg_none_of X G z_len, m_list := PySem.W.mg_none_of X G z_list, m_max := PySem.W.mg_none_of X G z_max, m_min := PySem.W.mg_none_of X G z_min, m_range := PySem.W.mg_none_of X G z_range, m_reversed := PySem.W.mg_none_of X G z_reversed, m_sorted := PySem.W.mg_none_of X G z_sorted, m_str := PySem.W.mg_none_of X G z_str, m_tuple := PySem.W.mg_none_of X G z_tuple, m_zip := PySem.W.mg_none_of X G z_zip, f_is_name := f_is_name, fd_is_name := _, F_is_name := fun_mk (st := s_is_name) l_is_name c_is_name k_is_name, b_is_name := (fun_mk (st := s_is_name) l_is_name c_is_name k_is_name).binds (ps := ["word"]) fun _ _ _ _ _ _ us hl => match us, hl with | [_], _ => rfl, g_is_name := PySem.W.mg_of X G a_is_name, f_is_number := f_is_number, fd_is_number := _, F_is_number := fun_mk (st := s_is_number) l_is_number c_is_number k_is_number, b_is_number := (fun_mk (st := s_is_number) l_is_number c_is_number k_is_number).binds (ps := ["word"]) fun _ _ _ _ _ _ us hl => match us, hl with | [_], _ => rfl, g_is_number := PySem.W.mg_of X G a_is_number, f_read_joined := f_read_joined, fd_read_joined := _, F_read_joined := fun_mk (st := s_read_joined) l_read_joined c_read_joined k_read_joined, b_read_joined := (fun_mk (st := s_read_joined) l_read_joined c_read_joined k_read_joined).binds (ps := ["word"]) fun _ _ _ _ _ _ us hl => match us, hl with | [_], _ => rfl, g_read_joined := PySem.W.mg_of X G a_read_joined, f_read_record := f_read_record, fd_read_record := _, F_read_record := fun_mk (st := s_read_record) l_read_record c_read_record k_read_record, b_read_record := (fun_mk (st := s_read_record) l_read_record c_read_record k_read_record).binds (ps := ["text"]) fun _ _ _ _ _ _ us hl => match us, hl with | [_], _ => rfl, g_read_record := PySem.W.mg_of X G a_read_record, f_read_log := f_read_log, fd_read_log := _, F_read_log := fun_mk (st := s_read_log) l_read_log c_read_log k_read_log, b_read_log := (fun_mk (st := s_read_log) l_read_log c_read_log k_read_log).binds (ps := ["log"]) fun _ _ _ _ _ _ us hl => match us, hl with | [_], _ => rfl, g_read_log := PySem.W.mg_of X G a_read_log, f_log_end := f_log_end, fd_log_end := _, F_log_end := fun_mk (st := s_log_end) l_log_end c_log_end k_log_end, b_log_end := (fun_mk (st := s_log_end) l_log_end c_log_end k_log_end).binds (ps := ["log"]) fun _ _ _ _ _ _ us hl => match us, hl with | [_], _ => rfl, g_log_end := PySem.W.mg_of X G a_log_end, f_read_picture := f_read_picture, fd_read_picture := _, F_read_picture := fun_mk (st := s_read_picture) l_read_picture c_read_picture k_read_picture, b_read_picture := (fun_mk (st := s_read_picture) l_read_picture c_read_picture k_read_picture).binds (ps := ["words"]) fun _ _ _ _ _ _ us hl => match us, hl with | [_], _ => rfl, g_read_picture := PySem.W.mg_of X G a_read_picture, f_read_put := f_read_put, fd_read_put := _, F_read_put := fun_mk (st := s_read_put) l_read_put c_read_put k_read_put, b_read_put := (fun_mk (st := s_read_put) l_read_put c_read_put k_read_put).binds (ps := ["words"]) fun _ _ _ _ _ _ us hl => match us, hl with | [_], _ => rfl, g_read_put := PySem.W.mg_of X G a_read_put, f_read_deal := f_read_deal, fd_read_deal := _, F_read_deal := fun_mk (st := s_read_deal) l_read_deal c_read_deal k_read_deal, b_read_deal := (fun_mk (st := s_read_deal) l_read_deal c_read_deal k_read_deal).binds (ps := ["words"]) fun _ _ _ _ _ _ us hl => match us, hl with | [_], _ => rfl, g_read_deal := PySem.W.mg_of X G a_read_deal, f_read_cap := f_read_cap, fd_read_cap := _, F_read_cap := fun_mk (st := s_read_cap) l_read_cap c_read_cap k_read_cap, b_read_cap := (fun_mk (st := s_read_cap) l_read_cap c_read_cap k_read_cap).binds (ps := ["words"]) fun _ _ _ _ _ _ us hl => match us, hl with | [_], _ => rfl, g_read_cap := PySem.W.mg_of X G a_read_cap, f_read_name := f_read_name, fd_read_name := _, F_read_name := fun_mk (st := s_read_name) l_read_name c_read_name k_read_name, b_read_name := (fun_mk (st := s_read_name) l_read_name c_read_name k_read_name).binds (ps := ["word"]) fun _ _ _ _ _ _ us hl => match us, hl with | [_], _ => rfl, g_read_name := PySem.W.mg_of X G a_read_name, f_read_wardens := f_read_wardens, fd_read_wardens := _, F_read_wardens := fun_mk (st := s_read_wardens) l_read_wardens c_read_wardens k_read_wardens, b_read_wardens := (fun_mk (st := s_read_wardens) l_read_wardens c_read_wardens k_read_wardens).binds (ps := ["words"]) fun _ _ _ _ _ _ us hl => match us, hl with | [_], _ => rfl, g_read_wardens := PySem.W.mg_of X G a_read_wardens, f_read_warden := f_read_warden, fd_read_warden := _, F_read_warden := fun_mk (st := s_read_warden) l_read_warden c_read_warden k_read_warden, b_read_warden := (fun_mk (st := s_read_warden) l_read_warden c_read_warden k_read_warden).binds (ps := ["word"]) fun _ _ _ _ _ _ us hl => match us, hl with | [_], _ => rfl, g_read_warden := PySem.W.mg_of X G a_read_warden, f_rise := f_rise, fd_rise := _, F_rise := fun_mk (st := s_rise) l_rise c_rise k_rise, b_rise := (fun_mk (st := s_rise) l_rise c_rise k_rise).binds (ps := ["items"]) fun _ _ _ _ _ _ us hl => match us, hl with | [_], _ => rfl, g_rise := PySem.W.mg_of X G a_rise, f_count := f_count, fd_count := _, F_count := fun_mk (st := s_count) l_count c_count k_count, b_count := (fun_mk (st := s_count) l_count c_count k_count).binds (ps := ["numbers"]) fun _ _ _ _ _ _ us hl => match us, hl with | [_], _ => rfl, g_count := PySem.W.mg_of X G a_count, f_last_picture := f_last_picture, fd_last_picture := _, F_last_picture := fun_mk (st := s_last_picture) l_last_picture c_last_picture k_last_picture, b_last_picture := (fun_mk (st := s_last_picture) l_last_picture c_last_picture k_last_picture).binds (ps := ["log"]) fun _ _ _ _ _ _ us hl => match us, hl with | [_], _ => rfl, g_last_picture := PySem.W.mg_of X G a_last_picture, f_law_cell := f_law_cell, fd_law_cell := _, F_law_cell := fun_mk (st := s_law_cell) l_law_cell c_law_cell k_law_cell, b_law_cell := (fun_mk (st := s_law_cell) l_law_cell c_law_cell k_law_cell).binds (ps := ["script", "k"]) fun _ _ _ _ _ _ us hl => match us, hl with | [_, _], _ => rfl, g_law_cell := PySem.W.mg_of X G a_law_cell, f_law_draws := f_law_draws, fd_law_draws := _, F_law_draws := fun_mk (st := s_law_draws) l_law_draws c_law_draws k_law_draws, b_law_draws := (fun_mk (st := s_law_draws) l_law_draws c_law_draws k_law_draws).binds (ps := ["cell", "sizes"]) fun _ _ _ _ _ _ us hl => match us, hl with | [_, _], _ => rfl, g_law_draws := PySem.W.mg_of X G a_law_draws, f_law_sign := f_law_sign, fd_law_sign := _, F_law_sign := fun_mk (st := s_law_sign) l_law_sign c_law_sign k_law_sign, b_law_sign := (fun_mk (st := s_law_sign) l_law_sign c_law_sign k_law_sign).binds (ps := ["number"]) fun _ _ _ _ _ _ us hl => match us, hl with | [_], _ => rfl, g_law_sign := PySem.W.mg_of X G a_law_sign, f_law_is_integer := f_law_is_integer, fd_law_is_integer := _, F_law_is_integer := fun_mk (st := s_law_is_integer) l_law_is_integer c_law_is_integer k_law_is_integer, b_law_is_integer := (fun_mk (st := s_law_is_integer) l_law_is_integer c_law_is_integer k_law_is_integer).binds (ps := ["actual"]) fun _ _ _ _ _ _ us hl => match us, hl with | [_], _ => rfl, g_law_is_integer := PySem.W.mg_of X G a_law_is_integer, f_law_names := f_law_names, fd_law_names := _, F_law_names := fun_mk (st := s_law_names) l_law_names c_law_names k_law_names, b_law_names := (fun_mk (st := s_law_names) l_law_names c_law_names k_law_names).binds (ps := ["cell"]) fun _ _ _ _ _ _ us hl => match us, hl with | [_], _ => rfl, g_law_names := PySem.W.mg_of X G a_law_names, f_law_alike := f_law_alike, fd_law_alike := _, F_law_alike := fun_mk (st := s_law_alike) l_law_alike c_law_alike k_law_alike, b_law_alike := (fun_mk (st := s_law_alike) l_law_alike c_law_alike k_law_alike).binds (ps := ["actual", "due"]) fun _ _ _ _ _ _ us hl => match us, hl with | [_, _], _ => rfl, g_law_alike := PySem.W.mg_of X G a_law_alike, f_law_join := f_law_join, fd_law_join := _, F_law_join := fun_mk (st := s_law_join) l_law_join c_law_join k_law_join, b_law_join := (fun_mk (st := s_law_join) l_law_join c_law_join k_law_join).binds (ps := ["numbers"]) fun _ _ _ _ _ _ us hl => match us, hl with | [_], _ => rfl, g_law_join := PySem.W.mg_of X G a_law_join, f_law_text_of := f_law_text_of, fd_law_text_of := _, F_law_text_of := fun_mk (st := s_law_text_of) l_law_text_of c_law_text_of k_law_text_of, b_law_text_of := (fun_mk (st := s_law_text_of) l_law_text_of c_law_text_of k_law_text_of).binds (ps := ["record"]) fun _ _ _ _ _ _ us hl => match us, hl with | [_], _ => rfl, g_law_text_of := PySem.W.mg_of X G a_law_text_of, f_law_sizes := f_law_sizes, fd_law_sizes := _, F_law_sizes := fun_mk (st := s_law_sizes) l_law_sizes c_law_sizes k_law_sizes, b_law_sizes := (fun_mk (st := s_law_sizes) l_law_sizes c_law_sizes k_law_sizes).binds (ps := []) fun _ _ _ _ _ _ us hl => match us, hl with | [], _ => rfl, g_law_sizes := PySem.W.mg_of X G a_law_sizes, f_law_small := f_law_small, fd_law_small := _, F_law_small := fun_mk (st := s_law_small) l_law_small c_law_small k_law_small, b_law_small := (fun_mk (st := s_law_small) l_law_small c_law_small k_law_small).binds (ps := ["row", "k", "is_picture", "names"]) fun _ _ _ _ _ _ us hl => match us, hl with | [_, _, _, _], _ => rfl, g_law_small := PySem.W.mg_of X G a_law_small, f_law_other := f_law_other, fd_law_other := _, F_law_other := fun_mk (st := s_law_other) l_law_other c_law_other k_law_other, b_law_other := (fun_mk (st := s_law_other) l_law_other c_law_other k_law_other).binds (ps := ["number"]) fun _ _ _ _ _ _ us hl => match us, hl with | [_], _ => rfl, g_law_other := PySem.W.mg_of X G a_law_other, f_law_string := f_law_string, fd_law_string := _, F_law_string := fun_mk (st := s_law_string) l_law_string c_law_string k_law_string, b_law_string := (fun_mk (st := s_law_string) l_law_string c_law_string k_law_string).binds (ps := ["cell", "names", "before"]) fun _ _ _ _ _ _ us hl => match us, hl with | [_, _, _], _ => rfl, g_law_string := PySem.W.mg_of X G a_law_string, f_law_counted := f_law_counted, fd_law_counted := _, F_law_counted := fun_mk (st := s_law_counted) l_law_counted c_law_counted k_law_counted, b_law_counted := (fun_mk (st := s_law_counted) l_law_counted c_law_counted k_law_counted).binds (ps := ["strings"]) fun _ _ _ _ _ _ us hl => match us, hl with | [_], _ => rfl, g_law_counted := PySem.W.mg_of X G a_law_counted, f_law_reads := f_law_reads, fd_law_reads := _, F_law_reads := fun_mk (st := s_law_reads) l_law_reads c_law_reads k_law_reads, b_law_reads := (fun_mk (st := s_law_reads) l_law_reads c_law_reads k_law_reads).binds (ps := ["handed", "strings"]) fun _ _ _ _ _ _ us hl => match us, hl with | [_, _], _ => rfl, g_law_reads := PySem.W.mg_of X G a_law_reads, f_law := fa, fd_law := _, F_law := fun_mk (st := s_law) l_law c_law k_law, b_law := (fun_mk (st := s_law) l_law c_law k_law).binds (ps := ["script"]) fun _ _ _ _ _ _ us hl => match us, hl with | [_], _ => rfl, g_law := PySem.W.mg_of X G a_law }
  exact ⟨T.fd_law, fun s v => .of_eq rfl, fun base _ _ => law_sp main T⟩
theorem walk {l : PySem.W.OpenLaw} {q : Program} {loose : List Str} {XP : (Str → Option Value) → Heap → Prop} {YP : World → Heap → Prop} {d : DefRec} {K : Params → PySem.W.Frag} (hn : l.most = some 63) (hdf : d.params.defaults = [])
    (hY : ∀ (w : World) (h : Heap), YP w h → (K w.params).In h)
    (F : ∀ (w : World) (mg : Str → Option Value) (fa : Addr) (h : Heap), (K w.params).In h → h.Ns mainGlobals mg → mg d.name = some (.ref fa) →
      ∃ fd : FuncData, (∀ (s : Shared) (u : Value), BindsTo s fd ⟨[u], []⟩ [("script", u)]) ∧ ∀ base : Heap, (K w.params).In base → base.Ns mainGlobals mg → FnOk l.prog w (K w.params) mg base CX0 11 fa fd ["script"] (spLaw (K w.params))) :
    PySem.W.WalkO q loose XP YP l.row.toRowW d [] (fun f vs => PySem.call f vs) :=
  L2.walk_of (n := 63) (k := 11) (x := "script") (CX := fun _ => CX0) (sp := fun w => spLaw (K w.params)) hn (by decide) hdf ⟨rfl, by decide, by decide⟩ hY F (fun _ _ a ns hl _ hS => ⟨a, ns, rfl, hS, hl, fun _ => rfl⟩) fun _ _ _ _ _ z => z
end Y
open PySem PySem.W PyProof.Rows in
set_option maxRecDepth 100000 in
set_option maxHeartbeats 0 in
theorem PySem.Challenge.cw_pairwarden_k30_logs_read_holds : PySem.Challenge.rw_pairwarden_k30_logs_read.Holds := by
  w_on; o_law; k_head; (case hw => w_witness2)
  k_fill
  refine Y.walk (l := PySem.Challenge.rw_pairwarden_k30_logs_read) rfl rfl (fun w h Y => PySem.W.kIn_of Y) ?F
  case F =>
    intro w mg fa h KX G hmg
    refine' Y.all_mk Y.main KX G hmg ?z_abs ?z_all ?z_bool ?z_int ?z_isinstance ?z_len ?z_list ?z_max ?z_min ?z_range ?z_reversed ?z_sorted ?z_str ?z_tuple ?z_zip ?a_is_name ?l_is_name ?c_is_name ?k_is_name ?a_is_number ?l_is_number ?c_is_number ?k_is_number ?a_read_joined ?l_read_joined ?c_read_joined ?k_read_joined ?a_read_record ?l_read_record ?c_read_record ?k_read_record ?a_read_log ?l_read_log ?c_read_log ?k_read_log ?a_log_end ?l_log_end ?c_log_end ?k_log_end ?a_read_picture ?l_read_picture ?c_read_picture ?k_read_picture ?a_read_put ?l_read_put ?c_read_put ?k_read_put ?a_read_deal ?l_read_deal ?c_read_deal ?k_read_deal ?a_read_cap ?l_read_cap ?c_read_cap ?k_read_cap ?a_read_name ?l_read_name ?c_read_name ?k_read_name ?a_read_wardens ?l_read_wardens ?c_read_wardens ?k_read_wardens ?a_read_warden ?l_read_warden ?c_read_warden ?k_read_warden ?a_rise ?l_rise ?c_rise ?k_rise ?a_count ?l_count ?c_count ?k_count ?a_last_picture ?l_last_picture ?c_last_picture ?k_last_picture ?a_law_cell ?l_law_cell ?c_law_cell ?k_law_cell ?a_law_draws ?l_law_draws ?c_law_draws ?k_law_draws ?a_law_sign ?l_law_sign ?c_law_sign ?k_law_sign ?a_law_is_integer ?l_law_is_integer ?c_law_is_integer ?k_law_is_integer ?a_law_names ?l_law_names ?c_law_names ?k_law_names ?a_law_alike ?l_law_alike ?c_law_alike ?k_law_alike ?a_law_join ?l_law_join ?c_law_join ?k_law_join ?a_law_text_of ?l_law_text_of ?c_law_text_of ?k_law_text_of ?a_law_sizes ?l_law_sizes ?c_law_sizes ?k_law_sizes ?a_law_small ?l_law_small ?c_law_small ?k_law_small ?a_law_other ?l_law_other ?c_law_other ?k_law_other ?a_law_string ?l_law_string ?c_law_string ?k_law_string ?a_law_counted ?l_law_counted ?c_law_counted ?k_law_counted ?a_law_reads ?l_law_reads ?c_law_reads ?k_law_reads ?a_law ?l_law ?c_law ?k_law
    (case z_abs => k_is)
    (case z_all => k_is)
    (case z_bool => k_is)
    (case z_int => k_is)
    (case z_isinstance => k_is)
    (case z_len => k_is)
    (case z_list => k_is)
    (case z_max => k_is)
    (case z_min => k_is)
    (case z_range => k_is)
    (case z_reversed => k_is)
    (case z_sorted => k_is)
    (case z_str => k_is)
    (case z_tuple => k_is)
    (case z_zip => k_is)
    (case a_is_name => k_is)
    (case l_is_name => k_is)
    (case c_is_name => k_is)
    (case k_is_name => k_is)
    (case a_is_number => k_is)
    (case l_is_number => k_is)
    (case c_is_number => k_is)
    (case k_is_number => k_is)
    (case a_read_joined => k_is)
    (case l_read_joined => k_is)
    (case c_read_joined => k_is)
    (case k_read_joined => k_is)
    (case a_read_record => k_is)
    (case l_read_record => k_is)
    (case c_read_record => k_is)
    (case k_read_record => k_is)
    (case a_read_log => k_is)
    (case l_read_log => k_is)
    (case c_read_log => k_is)
    (case k_read_log => k_is)
    (case a_log_end => k_is)
    (case l_log_end => k_is)
    (case c_log_end => k_is)
    (case k_log_end => k_is)
    (case a_read_picture => k_is)
    (case l_read_picture => k_is)
    (case c_read_picture => k_is)
    (case k_read_picture => k_is)
    (case a_read_put => k_is)
    (case l_read_put => k_is)
    (case c_read_put => k_is)
    (case k_read_put => k_is)
    (case a_read_deal => k_is)
    (case l_read_deal => k_is)
    (case c_read_deal => k_is)
    (case k_read_deal => k_is)
    (case a_read_cap => k_is)
    (case l_read_cap => k_is)
    (case c_read_cap => k_is)
    (case k_read_cap => k_is)
    (case a_read_name => k_is)
    (case l_read_name => k_is)
    (case c_read_name => k_is)
    (case k_read_name => k_is)
    (case a_read_wardens => k_is)
    (case l_read_wardens => k_is)
    (case c_read_wardens => k_is)
    (case k_read_wardens => k_is)
    (case a_read_warden => k_is)
    (case l_read_warden => k_is)
    (case c_read_warden => k_is)
    (case k_read_warden => k_is)
    (case a_rise => k_is)
    (case l_rise => k_is)
    (case c_rise => k_is)
    (case k_rise => k_is)
    (case a_count => k_is)
    (case l_count => k_is)
    (case c_count => k_is)
    (case k_count => k_is)
    (case a_last_picture => k_is)
    (case l_last_picture => k_is)
    (case c_last_picture => k_is)
    (case k_last_picture => k_is)
    (case a_law_cell => k_is)
    (case l_law_cell => k_is)
    (case c_law_cell => k_is)
    (case k_law_cell => k_is)
    (case a_law_draws => k_is)
    (case l_law_draws => k_is)
    (case c_law_draws => k_is)
    (case k_law_draws => k_is)
    (case a_law_sign => k_is)
    (case l_law_sign => k_is)
    (case c_law_sign => k_is)
    (case k_law_sign => k_is)
    (case a_law_is_integer => k_is)
    (case l_law_is_integer => k_is)
    (case c_law_is_integer => k_is)
    (case k_law_is_integer => k_is)
    (case a_law_names => k_is)
    (case l_law_names => k_is)
    (case c_law_names => k_is)
    (case k_law_names => k_is)
    (case a_law_alike => k_is)
    (case l_law_alike => k_is)
    (case c_law_alike => k_is)
    (case k_law_alike => k_is)
    (case a_law_join => k_is)
    (case l_law_join => k_is)
    (case c_law_join => k_is)
    (case k_law_join => k_is)
    (case a_law_text_of => k_is)
    (case l_law_text_of => k_is)
    (case c_law_text_of => k_is)
    (case k_law_text_of => k_is)
    (case a_law_sizes => k_is)
    (case l_law_sizes => k_is)
    (case c_law_sizes => k_is)
    (case k_law_sizes => k_is)
    (case a_law_small => k_is)
    (case l_law_small => k_is)
    (case c_law_small => k_is)
    (case k_law_small => k_is)
    (case a_law_other => k_is)
    (case l_law_other => k_is)
    (case c_law_other => k_is)
    (case k_law_other => k_is)
    (case a_law_string => k_is)
    (case l_law_string => k_is)
    (case c_law_string => k_is)
    (case k_law_string => k_is)
    (case a_law_counted => k_is)
    (case l_law_counted => k_is)
    (case c_law_counted => k_is)
    (case k_law_counted => k_is)
    (case a_law_reads => k_is)
    (case l_law_reads => k_is)
    (case c_law_reads => k_is)
    (case k_law_reads => k_is)
    (case a_law => k_is)
    (case l_law => k_is)
    (case c_law => k_is)
    (case k_law => k_is)
end

import PyProof.Rows.All
import Wide.All
import OpenK.AllK
import Wide.FinOn
import HandS.ForMost
import HandS.Evl
import HandS.Strs
import HandS.Wide
import HandS.IsInst
import HandS.SortInts
import HandS.SortOrd
import KE.GoesEnum
import PyProof.TupleOfSeq
import PyProof.WalkInts
import HandS.Rev
import PyProof.ListNew
import HandS.TupAny
import HandS.SetFor
import HandS.Zip
import PyProof.Rows.CountFlat
import PyProof.P3In
import KE.KDictWalk
import HandS.Style
import HandS.Conv
import HandS.Defaults
import PyProof.DictMoreH
import PyProof.ReprRoads
import HandS.ExcOwn
import HandS.ExcIs
import HandS.Small
import HandS.SortRule
import HandS.Codes
import PyProof.Rows.MatchSeqLen
import PyProof.Rows.TupIter
import HandS.ExcInit
import HandS.ExcField
import KE.KExcIs
import HandS.Flow
import HandS.DictComp
import HandS.DictSubView
import HandS.More
import KE.KDictSum
import KE.KDictCopyH
import HandS.TupSets
import HandS.SetBool
import HandS.FStr
import KE.KUnpackStar
import KE.GoesEnumKw
import PyProof.StrBlock2
import HandS.HotCalls
import KE.KxField
import HandS.TupLe
import PyProof.ZipIter
import PyProof.CallType
import PyProof.WalkLemmas
import PyProof.RulesTry
import HandS.RepeatKit
import HandS.DictSubView0
import HandS.RevRange
import HandS.ReplaceLit
import HandS.ReplaceList
import KE.SortData
import HandS.RaiseMore
import HandS.ExcCtx
import PyProof.Rows.StrJoinRep
import PyProof.Rows.StrClose5
import KE.IntTextText
import PyProof.Rows.StrFirst
import KE.RegKIsAll
import KE.RegKTryMore
import HandS.EndBits
import PySem.Challenge.RW_pairwarden_k31_commands_there_and_back
namespace Rk
end Rk
namespace Y
end Y
namespace Zb
end Zb
namespace Zc
end Zc
namespace Zd
end Zd
namespace Zf
end Zf
namespace Zf6
end Zf6
namespace Zg
end Zg
namespace Zi
end Zi
namespace Zj
end Zj
namespace Zk
end Zk
namespace Zk2
end Zk2
namespace Zm
end Zm
namespace Zn
end Zn
namespace Zp
end Zp
namespace Zq
end Zq
namespace Zq5
end Zq5
namespace Zq6
end Zq6
namespace Zq7
end Zq7
namespace Zq8
end Zq8
namespace Zq9
end Zq9
namespace Zr
end Zr
namespace Zra
end Zra
namespace Zrb
end Zrb
namespace Zrc
end Zrc
namespace Zrd
end Zrd
namespace Zre
end Zre
namespace Zt
end Zt
namespace Zv
end Zv
namespace Zw
end Zw
namespace Zx
end Zx
section
set_option Elab.async false
set_option linter.all false
set_option maxRecDepth 100000
set_option autoImplicit false
set_option maxHeartbeats 2000000
/-! Data as trees over the layer: what is represented, what is owned. -/
namespace Zk
open PySem L2
open Evl (Ex)

inductive D where
  | non | bl (b : Bool) | int (i : Int) | str (s : Str)
  | lst (ds : List D) | tup (ds : List D)
  | scr (ns : List Int)
  | ins (C : Addr) (fs : List (Str × D))
  | dct (kvs : List (List Key × D))
  | dck (kvs : List (Key × D))
  | sti (w : World) (ns : List Int)
  | exn (a dd C : Addr) (fs : List (Str × D))
  | adr (a : Addr) (d : D)
  | ty (n : String) | cls (C : Addr)

def D.flat : D → Bool
  | .non => true | .bl _ => true | .int _ => true | .str _ => true | .ty _ => true | .cls _ => true | _ => false

variable {K : PySem.W.Frag}

mutual
inductive Rp (K : PySem.W.Frag) (O : Addr → Prop) (H : Hp) : V → D → Prop
  | non : Rp K O H .non .non
  | bl (b : Bool) : Rp K O H (.bl b) (.bl b)
  | int (i : Int) : Rp K O H (.int i) (.int i)
  | str (s : Str) : Rp K O H (.str s) (.str s)
  | ty (n : String) : Rp K O H (.ty n) (.ty n)
  | cls (C : Addr) : Rp K O H (.ref C) (.cls C)
  | lst {a : Addr} {xs : List V} {ds : List D} : ¬ O a → H a = some (.lst xs) → RpA K O H xs ds → Rp K O H (.ref a) (.lst ds)
  | tup {a : Addr} {xs : List V} {ds : List D} : ¬ O a → H a = some (.tup xs) → RpA K O H xs ds → Rp K O H (.ref a) (.tup ds)
  | dct {a : Addr} {xs : List (List Key × V)} {kvs : List (List Key × D)} : ¬ O a → H a = some (.dT xs) → xs.map (·.1) = kvs.map (·.1) → RpA K O H (xs.map (·.2)) (kvs.map (·.2)) → Rp K O H (.ref a) (.dct kvs)
  | dck {a : Addr} {xs : List (Key × V)} {kvs : List (Key × D)} : ¬ O a → H a = some (.dK xs) → xs.map (·.1) = kvs.map (·.1) → RpA K O H (xs.map (·.2)) (kvs.map (·.2)) → Rp K O H (.ref a) (.dck kvs)
  | sti {a : Addr} {w : World} {ns : List Int} : ¬ O a → H a = some (SetO w a (fun i => ns.contains i) ns.length) → Rp K O H (.ref a) (.sti w ns)
  | exn {a dd C : Addr} {fs : List (Str × V)} {gs : List (Str × D)} : ¬ O dd → H dd = some (.xd fs) → RpF K O H fs gs → Rp K O H (.ref a) (.exn a dd C gs)
  | adr {a : Addr} {d : D} : Rp K O H (.ref a) d → Rp K O H (.ref a) (.adr a d)
  | scr {a : Addr} {ns : List Int} : ¬ O a → Rd H a (.lst (ns.map V.int)) → Rp K O H (.ref a) (.scr ns)
  | kscr {a : Addr} {ns : List Int} : (∀ G : Hp, SqL K G a (ns.map V.int)) → Rp K O H (.ref a) (.scr ns)
  | ins {a C dx : Addr} {fs : List (Str × V)} {gs : List (Str × D)} : ¬ O a → H a = some (.ins C dx fs) → RpF K O H fs gs → Rp K O H (.ref a) (.ins C gs)
inductive RpA (K : PySem.W.Frag) (O : Addr → Prop) (H : Hp) : List V → List D → Prop
  | nil : RpA K O H [] []
  | cons {v : V} {vs : List V} {d : D} {ds : List D} : Rp K O H v d → RpA K O H vs ds → RpA K O H (v :: vs) (d :: ds)
inductive RpF (K : PySem.W.Frag) (O : Addr → Prop) (H : Hp) : List (Str × V) → List (Str × D) → Prop
  | nil : RpF K O H [] []
  | cons {n : Str} {v : V} {vs : List (Str × V)} {d : D} {ds : List (Str × D)} : Rp K O H v d → RpF K O H vs ds → RpF K O H ((n, v) :: vs) ((n, d) :: ds)
end

/-- what H and O know stays known by H' and O' -/
def Kp (O : Addr → Prop) (H : Hp) (O' : Addr → Prop) (H' : Hp) : Prop := ∀ a o, ¬ O a → H a = some o → ¬ O' a ∧ H' a = some o
theorem Kp.refl (O : Addr → Prop) (H : Hp) : Kp O H O H := fun _ _ h e => ⟨h, e⟩
theorem Kp.trans {O O1 O2 : Addr → Prop} {H H1 H2 : Hp} (x : Kp O H O1 H1) (y : Kp O1 H1 O2 H2) : Kp O H O2 H2 := fun a o h e => y a o (x a o h e).1 (x a o h e).2
theorem Kp.ex {O : Addr → Prop} {H H' : Hp} (e : Ex H H') : Kp O H O H' := fun a o h q => ⟨h, e a o q⟩

mutual
theorem Rp.kp {O O' : Addr → Prop} {H H' : Hp} (k : Kp O H O' H') : ∀ {v : V} {d : D}, Rp K O H v d → Rp K O' H' v d
  | _, _, .non => .non
  | _, _, .bl b => .bl b
  | _, _, .int i => .int i
  | _, _, .str s => .str s
  | _, _, .ty n => .ty n
  | _, _, .cls C => .cls C
  | _, _, .lst n h r => .lst (k _ _ n h).1 (k _ _ n h).2 (RpA.kp k r)
  | _, _, .tup n h r => .tup (k _ _ n h).1 (k _ _ n h).2 (RpA.kp k r)
  | _, _, .dct n h e r => .dct (k _ _ n h).1 (k _ _ n h).2 e (RpA.kp k r)
  | _, _, .dck n h e r => .dck (k _ _ n h).1 (k _ _ n h).2 e (RpA.kp k r)
  | _, _, .sti n h => .sti (k _ _ n h).1 (k _ _ n h).2
  | _, _, .exn n h r => .exn (k _ _ n h).1 (k _ _ n h).2 (RpF.kp k r)
  | _, _, .adr r => .adr (Rp.kp k r)
  | _, _, .scr n (.inl h) => .scr (k _ _ n h).1 (.inl (k _ _ n h).2)
  | _, _, .scr n (.inr ⟨o, h⟩) => .scr (k _ _ n h).1 (.inr ⟨o, (k _ _ n h).2⟩)
  | _, _, .kscr h => .kscr h
  | _, _, .ins n h r => .ins (k _ _ n h).1 (k _ _ n h).2 (RpF.kp k r)
theorem RpA.kp {O O' : Addr → Prop} {H H' : Hp} (k : Kp O H O' H') : ∀ {v : List V} {d : List D}, RpA K O H v d → RpA K O' H' v d
  | _, _, .nil => .nil
  | _, _, .cons h r => .cons (Rp.kp k h) (RpA.kp k r)
theorem RpF.kp {O O' : Addr → Prop} {H H' : Hp} (k : Kp O H O' H') : ∀ {v : List (Str × V)} {d : List (Str × D)}, RpF K O H v d → RpF K O' H' v d
  | _, _, .nil => .nil
  | _, _, .cons h r => .cons (Rp.kp k h) (RpF.kp k r)
end

theorem Rp.ex {O : Addr → Prop} {H H' : Hp} {v : V} {d : D} (r : Rp K O H v d) (e : Ex H H') : Rp K O H' v d := r.kp (Kp.ex e)
theorem RpA.ex {O : Addr → Prop} {H H' : Hp} {v : List V} {d : List D} (r : RpA K O H v d) (e : Ex H H') : RpA K O H' v d := r.kp (Kp.ex e)
theorem RpF.ex {O : Addr → Prop} {H H' : Hp} {v : List (Str × V)} {d : List (Str × D)} (r : RpF K O H v d) (e : Ex H H') : RpF K O H' v d := r.kp (Kp.ex e)
/-- flat data wants no heap -/
theorem Rp.flat {O O' : Addr → Prop} {H H' : Hp} {v : V} {d : D} (r : Rp K O H v d) (f : d.flat = true) : Rp K O' H' v d := by
  cases r <;> first | (cases f; done) | exact .non | exact .bl _ | exact .int _ | exact .str _ | exact .ty _ | exact .cls _

theorem RpA.len {O : Addr → Prop} {H : Hp} : ∀ {v : List V} {d : List D}, RpA K O H v d → v.length = d.length
  | _, _, .nil => rfl
  | _, _, .cons _ r => congrArg (· + 1) r.len
theorem RpA.get {O : Addr → Prop} {H : Hp} : ∀ {vs : List V} {ds : List D} {i : Nat} {d : D}, RpA K O H vs ds → ds[i]? = some d → ∃ v, vs[i]? = some v ∧ Rp K O H v d
  | _, _, i, d, .nil, e => by simp at e
  | _, _, 0, d, .cons h r, e => by
    simp at e
    subst e
    exact ⟨_, rfl, h⟩
  | _, _, i + 1, d, .cons h r, e => by
    simp at e
    obtain ⟨v, e1, e2⟩ := RpA.get r e
    exact ⟨v, by simpa using e1, e2⟩
theorem RpA.app {O : Addr → Prop} {H : Hp} : ∀ {vs : List V} {ds : List D} {ws : List V} {es : List D}, RpA K O H vs ds → RpA K O H ws es → RpA K O H (vs ++ ws) (ds ++ es)
  | _, _, _, _, .nil, r => r
  | _, _, _, _, .cons h q, r => .cons h (q.app r)
theorem RpA.one {O : Addr → Prop} {H : Hp} {v : V} {d : D} (r : Rp K O H v d) : RpA K O H [v] [d] := .cons r .nil
theorem RpA.take {O : Addr → Prop} {H : Hp} : ∀ {vs : List V} {ds : List D} (n : Nat), RpA K O H vs ds → RpA K O H (vs.take n) (ds.take n)
  | _, _, 0, _ => .nil
  | _, _, n + 1, .nil => .nil
  | _, _, n + 1, .cons h r => .cons h (r.take n)
theorem RpA.drop {O : Addr → Prop} {H : Hp} : ∀ {vs : List V} {ds : List D} (n : Nat), RpA K O H vs ds → RpA K O H (vs.drop n) (ds.drop n)
  | _, _, 0, r => r
  | _, _, n + 1, .nil => .nil
  | _, _, n + 1, .cons _ r => r.drop n
theorem RpA.set {O : Addr → Prop} {H : Hp} {v : V} {d : D} (h : Rp K O H v d) : ∀ {vs : List V} {ds : List D} (n : Nat), RpA K O H vs ds → RpA K O H (vs.set n v) (ds.set n d)
  | _, _, _, .nil => .nil
  | _, _, 0, .cons _ r => .cons h r
  | _, _, n + 1, .cons q r => .cons q (r.set h n)
theorem RpA.reverse {O : Addr → Prop} {H : Hp} {vs : List V} {ds : List D} (r : RpA K O H vs ds) : RpA K O H vs.reverse ds.reverse := by
  induction r using RpA.rec (motive_1 := fun _ _ _ => True) (motive_3 := fun _ _ _ => True) with
  | nil => exact .nil
  | cons h _ _ ih => rw [List.reverse_cons, List.reverse_cons]; exact ih.app (.one h)
  | _ => trivial
/-- a list of ints -/
def iL (ns : List Int) : List D := ns.map D.int
theorem RpA.toInts {O : Addr → Prop} {H : Hp} : ∀ {vs : List V} {ns : List Int}, RpA K O H vs (Zk.iL ns) → vs = ns.map V.int
  | _, [], .nil => rfl
  | _, n :: ns, .cons (.int _) r => by rw [List.map_cons, r.toInts]
theorem RpA.ofInts {O : Addr → Prop} {H : Hp} : ∀ (ns : List Int), RpA K O H (ns.map V.int) (Zk.iL ns)
  | [] => .nil
  | n :: ns => .cons (.int n) (RpA.ofInts ns)
theorem RpF.look {O : Addr → Prop} {H : Hp} {f : Str} : ∀ {fs : List (Str × V)} {gs : List (Str × D)} {d : D}, RpF K O H fs gs → gs.lookup f = some d → ∃ v, fs.lookup f = some v ∧ Rp K O H v d
  | _, _, d, .nil, e => by cases e
  | _, _, d, .cons (n := n) h r, e => by
    rw [List.lookup_cons] at e ⊢
    cases q : (f == n) with
    | true =>
      rw [q] at e
      cases e
      exact ⟨_, rfl, h⟩
    | false =>
      rw [q] at e
      exact r.look e

/-! ### the state of a def: slots, what is owned -/
inductive Wd where
  | v (d : D) | o (d : D)
abbrev Gm : Type := List (Option Wd)

/-- an owned thing: its top stands apart, what it holds is known -/
def RpO (K : PySem.W.Frag) (O : Addr → Prop) (H : Hp) (a : Addr) : D → Prop
  | .lst ds => ∃ xs, H a = some (.lst xs) ∧ RpA K O H xs ds
  | .ins C gs => ∃ dx fs, H a = some (.ins C dx fs) ∧ RpF K O H fs gs
  | .dct kvs => ∃ xs, H a = some (.dT xs) ∧ xs.map (·.1) = kvs.map (·.1) ∧ RpA K O H (xs.map (·.2)) (kvs.map (·.2))
  | .dck kvs => ∃ xs, H a = some (.dK xs) ∧ xs.map (·.1) = kvs.map (·.1) ∧ RpA K O H (xs.map (·.2)) (kvs.map (·.2))
  | .sti w ns => H a = some (SetO w a (fun i => ns.contains i) ns.length)
  | _ => False
theorem RpO.kp {O O' : Addr → Prop} {H H' : Hp} {a : Addr} {d : D} (k : Kp O H O' H') (e : H' a = H a) (r : RpO K O H a d) : RpO K O' H' a d := by
  cases d with
  | lst ds => obtain ⟨xs, h, q⟩ := r; exact ⟨xs, e.trans h, q.kp k⟩
  | ins C gs => obtain ⟨dx, fs, h, q⟩ := r; exact ⟨dx, fs, e.trans h, q.kp k⟩
  | dct kvs => obtain ⟨xs, h, e1, q⟩ := r; exact ⟨xs, e.trans h, e1, q.kp k⟩
  | dck kvs => obtain ⟨xs, h, e1, q⟩ := r; exact ⟨xs, e.trans h, e1, q.kp k⟩
  | sti w ns => exact e.trans r
  | _ => exact r.elim
theorem RpO.rp {O O' : Addr → Prop} {H : Hp} {a : Addr} {d : D} (k : Kp O H O' H) (n : ¬ O' a) (r : RpO K O H a d) : Rp K O' H (.ref a) d := by
  cases d with
  | lst ds => obtain ⟨xs, h, q⟩ := r; exact .lst n h (q.kp k)
  | ins C gs => obtain ⟨dx, fs, h, q⟩ := r; exact .ins n h (q.kp k)
  | dct kvs => obtain ⟨xs, h, e1, q⟩ := r; exact .dct n h e1 (q.kp k)
  | dck kvs => obtain ⟨xs, h, e1, q⟩ := r; exact .dck n h e1 (q.kp k)
  | sti w ns => exact .sti n r
  | _ => exact r.elim
/-- there, and no tuple -/
def Lv (H : Hp) (a : Addr) : Prop := H a ≠ none ∧ ∀ xs, H a ≠ some (.tup xs)
theorem Lv.ex {H H' : Hp} {a : Addr} (h : Lv H a) (e : Ex H H') : Lv H' a := by
  cases z : H a with
  | none => exact absurd z h.1
  | some o =>
    have := e a o z
    exact ⟨fun q => (by rw [this] at q; cases q), fun xs q => (by rw [this] at q; exact h.2 xs (z.trans q))⟩
theorem RpO.lv {O : Addr → Prop} {H : Hp} {a : Addr} {d : D} (r : RpO K O H a d) : Lv H a := by
  cases d with
  | lst ds => obtain ⟨xs, h, q⟩ := r; exact ⟨fun z => (by rw [h] at z; cases z), fun _ z => (by rw [h] at z; cases z)⟩
  | ins C gs => obtain ⟨dx, fs, h, q⟩ := r; exact ⟨fun z => (by rw [h] at z; cases z), fun _ z => (by rw [h] at z; cases z)⟩
  | dct kvs => obtain ⟨xs, h, e1, q⟩ := r; exact ⟨fun z => (by rw [h] at z; cases z), fun _ z => (by rw [h] at z; cases z)⟩
  | dck kvs => obtain ⟨xs, h, e1, q⟩ := r; exact ⟨fun z => (by rw [h] at z; cases z), fun _ z => (by rw [h] at z; cases z)⟩
  | sti w ns =>
    have h : H a = some (SetO w a (fun i => ns.contains i) ns.length) := r
    exact ⟨fun z => (by rw [h] at z; cases z), fun _ z => (by rw [h] at z; cases z)⟩
  | _ => exact r.elim
theorem RpO.there {O : Addr → Prop} {H : Hp} {a : Addr} {d : D} (r : RpO K O H a d) : H a ≠ none := by
  cases d with
  | lst ds => obtain ⟨xs, h, q⟩ := r; rw [h]; exact fun z => by cases z
  | ins C gs => obtain ⟨dx, fs, h, q⟩ := r; rw [h]; exact fun z => by cases z
  | dct kvs => obtain ⟨xs, h, e1, q⟩ := r; rw [h]; exact fun z => by cases z
  | dck kvs => obtain ⟨xs, h, e1, q⟩ := r; rw [h]; exact fun z => by cases z
  | sti w ns =>
    have h : H a = some (SetO w a (fun i => ns.contains i) ns.length) := r
    rw [h]; exact fun z => by cases z
  | _ => exact r.elim

abbrev OW := Nat → Option Addr
def OO (Oc : Addr → Prop) (ow : OW) : Addr → Prop := fun a => Oc a ∨ ∃ i, ow i = some a
def noOw : OW := fun _ => none

/-- what is kept in sight: values that stay known; the object that slot 0 makes -/
structure Pn where
  ps : List (V × D)
  me : Option Addr

structure Reps (K : PySem.W.Frag) (H0 : Hp) (Oc : Addr → Prop) (pins : Pn) (ow : OW) (σ : L2.St) (H : Hp) (g : Gm) : Prop where
  len : σ.length = g.length
  ex : Ex H0 H
  oc : ∀ a, Oc a → Lv H0 a
  fr : ∀ (i : Nat) (a : Addr), ow i = some a → H0 a = none ∧ Lv H a
  inj : ∀ (i j : Nat) (a : Addr), ow i = some a → ow j = some a → i = j
  is : ∀ (i : Nat) (a : Addr), ow i = some a → ∃ d : D, g[i]? = some (some (Wd.o d))
  val : ∀ (i : Nat) (d : D), g[i]? = some (some (Wd.v d)) → ∃ v, σ[i]? = some (some v) ∧ Rp K (OO Oc ow) H v d
  own : ∀ (i : Nat) (d : D), g[i]? = some (some (Wd.o d)) → ∃ a, ow i = some a ∧ σ[i]? = some (some (.ref a)) ∧ RpO K (OO Oc ow) H a d
  pin : ∀ p ∈ pins.ps, Rp K (OO Oc ow) H p.1 p.2
  slf : ∀ x, pins.me = some x → ow 0 = some x

section
variable {H0 H H' : Hp} {Oc : Addr → Prop} {pins : Pn} {ow : OW} {σ : L2.St} {g : Gm}
theorem Reps.oo (R : Reps K H0 Oc pins ow σ H g) : ∀ a, OO Oc ow a → Lv H a := fun a h => by
  rcases h with h | ⟨i, h⟩
  · exact (R.oc a h).ex R.ex
  · exact (R.fr i a h).2
theorem Reps.grow (R : Reps K H0 Oc pins ow σ H g) (e : Ex H H') : Reps K H0 Oc pins ow σ H' g where
  len := R.len
  ex := R.ex.trans e
  oc := R.oc
  fr := fun i a h => ⟨(R.fr i a h).1, (R.fr i a h).2.ex e⟩
  inj := R.inj
  is := R.is
  val := fun i d h => let ⟨v, h1, h2⟩ := R.val i d h; ⟨v, h1, h2.ex e⟩
  own := fun i d h => let ⟨a, h1, h2, h3⟩ := R.own i d h; ⟨a, h1, h2, h3.kp (Kp.ex e) (by
    cases z : H a with
    | none => exact absurd z h3.there
    | some o => exact e a o z)⟩
  pin := fun p h => (R.pin p h).ex e
  slf := R.slf
theorem Reps.new {p : Addr} (R : Reps K H0 Oc pins ow σ H g) (h : H p = none) : ¬ OO Oc ow p := fun q => (R.oo p q).1 h
end

/-! ### freezing -/
def Wd.frz : Wd → Wd
  | .v d => .v d
  | .o d => .v d
def frzAll (g : Gm) : Gm := g.map (Option.map Wd.frz)
theorem frzAll_get (g : Gm) (i : Nat) : (frzAll g)[i]? = (g[i]?).map (Option.map Wd.frz) := by unfold frzAll; rw [List.getElem?_map]
def frz1 (g : Gm) (i : Nat) : Gm := if i = 0 then g else match g[i]? with
  | some (some (Wd.o d)) => g.set i (some (Wd.v d))
  | _ => g
def frzs (g : Gm) : List Nat → Gm
  | [] => g
  | i :: is => frzs (frz1 g i) is

section
variable {H0 H H' : Hp} {Oc : Addr → Prop} {pins : Pn} {ow : OW} {σ : L2.St} {g : Gm}
theorem Reps.kpDrop (R : Reps K H0 Oc pins ow σ H g) {ow' : OW} (h : ∀ i a, ow' i = some a → ow i = some a) : Kp (OO Oc ow) H (OO Oc ow') H := fun a o n e =>
  ⟨fun q => n (q.imp id fun ⟨i, z⟩ => ⟨i, h i a z⟩), e⟩
theorem Reps.frzAll (R : Reps K H0 Oc pins ow σ H g) : Reps K H0 Oc ⟨pins.ps, none⟩ noOw σ H (frzAll g) where
  len := by unfold Zk.frzAll; rw [List.length_map]; exact R.len
  ex := R.ex
  oc := R.oc
  fr := fun i a h => by cases h
  inj := fun i j a h => by cases h
  is := fun i a h => by cases h
  val := fun i d h => by
    have k := R.kpDrop (ow' := noOw) (fun i a z => by cases z)
    rw [frzAll_get] at h
    cases q : g[i]? with
    | none => rw [q] at h; cases h
    | some o =>
      rw [q] at h
      cases o with
      | none => cases h
      | some w =>
        cases w with
        | v d' =>
          cases h
          obtain ⟨v, h1, h2⟩ := R.val i d q
          exact ⟨v, h1, h2.kp k⟩
        | o d' =>
          cases h
          obtain ⟨a, h1, h2, h3⟩ := R.own i d q
          refine ⟨.ref a, h2, h3.rp k fun z => ?_⟩
          rcases z with z | ⟨j, z⟩
          · exact (R.oc a z).1 (R.fr i a h1).1
          · cases z
  own := fun i d h => by
    rw [frzAll_get] at h
    cases q : g[i]? with
    | none => rw [q] at h; cases h
    | some o =>
      rw [q] at h
      cases o with
      | none => cases h
      | some w => cases w <;> cases h
  pin := fun p h => (R.pin p h).kp (R.kpDrop (fun i a z => by cases z))
  slf := fun x h => by cases h
theorem Reps.frz1 (R : Reps K H0 Oc pins ow σ H g) (i : Nat) : ∃ ow', Reps K H0 Oc pins ow' σ H (frz1 g i) := by
  unfold Zk.frz1
  by_cases i0 : i = 0
  · rw [if_pos i0]; exact ⟨ow, R⟩
  rw [if_neg i0]
  split
  · rename_i d hd
    have hi : i < g.length := (List.getElem?_eq_some_iff.mp hd).1
    have hk : ∀ j a, (fun j => if j = i then none else ow j) j = some a → ow j = some a := fun j a z => by
      dsimp only at z
      split at z
      · cases z
      · exact z
    have k := R.kpDrop hk
    obtain ⟨ai, hi1, hi2, hi3⟩ := R.own i d hd
    refine ⟨fun j => if j = i then none else ow j, ?_⟩
    exact {
      len := by rw [List.length_set]; exact R.len
      ex := R.ex
      oc := R.oc
      fr := fun j a h => R.fr j a (hk j a h)
      inj := fun j l a h h' => R.inj j l a (hk j a h) (hk l a h')
      is := fun j a h => by
        have q := R.is j a (hk j a h)
        have n : j ≠ i := fun z => by
          rw [if_pos z] at h; cases h
        rw [List.getElem?_set_ne (Ne.symm n)]
        exact q
      val := fun j d' h => by
        by_cases n : j = i
        · subst n
          rw [List.getElem?_set_self hi] at h
          cases h
          refine ⟨.ref ai, hi2, hi3.rp k fun z => ?_⟩
          rcases z with z | ⟨l, z⟩
          · exact (R.oc ai z).1 (R.fr j ai hi1).1
          · have e := R.inj l j ai (hk l ai z) hi1
            have z' : (if l = j then none else ow l) = some ai := z
            rw [if_pos e] at z'
            cases z'
        · rw [List.getElem?_set_ne (Ne.symm n)] at h
          obtain ⟨v, h1, h2⟩ := R.val j d' h
          exact ⟨v, h1, h2.kp k⟩
      own := fun j d' h => by
        by_cases n : j = i
        · subst n
          rw [List.getElem?_set_self hi] at h
          cases h
        · rw [List.getElem?_set_ne (Ne.symm n)] at h
          obtain ⟨a, h1, h2, h3⟩ := R.own j d' h
          exact ⟨a, by rw [if_neg n]; exact h1, h2, h3.kp k rfl⟩
      pin := fun p h => (R.pin p h).kp k
      slf := fun x h => by rw [if_neg (Ne.symm i0)]; exact R.slf x h }
  · exact ⟨ow, R⟩
theorem Reps.frzs : ∀ (is : List Nat) {ow : OW} {g : Gm}, Reps K H0 Oc pins ow σ H g → ∃ ow', Reps K H0 Oc pins ow' σ H (Zk.frzs g is)
  | [], ow, g, R => ⟨ow, R⟩
  | i :: is, ow, g, R => by
    obtain ⟨ow1, R1⟩ := R.frz1 i
    exact Reps.frzs is R1
end
end Zk
end

section
set_option Elab.async false
set_option linter.all false
set_option maxRecDepth 100000
set_option autoImplicit false
set_option maxHeartbeats 2000000
/-! What expressions are worth, as data. -/
namespace Zk
open PySem L2
open Evl (Ex)

abbrev DF : Type := Gm → Option D
abbrev DAF : Type := Gm → Option (List D)
abbrev DTF : Type := Gm → Option Bool
def dVar (i : Nat) : DF := fun g => match g[i]? with
  | some (some (.v d)) => some d
  | _ => none
def dC (d : D) : DF := fun _ => some d
def d1 (f : D → Option D) (a : DF) : DF := fun g => (a g).bind f
def d2 (f : D → D → Option D) (a b : DF) : DF := fun g => (a g).bind fun x => (b g).bind fun y => f x y
def dN (f : List D → Option D) (a : DAF) : DF := fun g => (a g).bind f
def aNil : DAF := fun _ => some []
def aCons (a : DF) (r : DAF) : DAF := fun g => (a g).bind fun x => (r g).bind fun xs => some (x :: xs)
def mkTup (xs : List D) : Option D := if xs.length ≤ 100000 then some (.tup xs) else none
def mkLst (xs : List D) : Option D := if xs.length ≤ 100000 then some (.lst xs) else none

section
variable (K : PySem.W.Frag)
/-- an expression's reading te is worth t -/
def ER (te : TE) (t : DF) : Prop := ∀ g d, t g = some d → ∀ H0 Oc pins ow σ H, Reps K H0 Oc pins ow σ H g → ∀ Q : VK, (∀ v H', Ex H H' → Rp K (OO Oc ow) H' v d → Q v H') → te σ H Q
def AR (ta : TA) (t : DAF) : Prop := ∀ g ds, t g = some ds → ∀ H0 Oc pins ow σ H, Reps K H0 Oc pins ow σ H g → ∀ Q : List V → Hp → Prop, (∀ vs H', Ex H H' → RpA K (OO Oc ow) H' vs ds → Q vs H') → ta σ H Q
def TR (tt : TT) (t : DTF) : Prop := ∀ g b, t g = some b → ∀ H0 Oc pins ow σ H, Reps K H0 Oc pins ow σ H g → ∀ Q : Bool → Hp → Prop, (∀ H', Ex H H' → Q b H') → tt σ H Q
/-- operations by values -/
def RR (r : R2) (f : D → D → Option D) : Prop := ∀ x y d, f x y = some d → ∀ (O : Addr → Prop) H v u, (∀ a, O a → Lv H a) → Rp K O H v x → Rp K O H u y → ∀ Q : VK, (∀ w H', Ex H H' → Rp K O H' w d → Q w H') → r v u H Q
def RC (r : List V → Hp → VK → Prop) (f : List D → Option D) : Prop := ∀ xs d, f xs = some d → ∀ (O : Addr → Prop) H vs, (∀ a, O a → Lv H a) → RpA K O H vs xs → ∀ Q : VK, (∀ w H', Ex H H' → Rp K O H' w d → Q w H') → r vs H Q
end

section
variable {K : PySem.W.Frag} {ta tb tc te : TE} {a b c : DF} {tt tu : TT} {t u : DTF}
theorem er_var (i : Nat) : ER K (tVar i) (dVar i) := fun g d h H0 Oc pins ow σ H R Q q => by
  unfold dVar at h
  split at h
  · rename_i d' e
    cases h
    obtain ⟨v, h1, h2⟩ := R.val i d e
    exact ⟨v, h1, q v H (Evl.Ex.refl H) h2⟩
  · cases h
theorem er_int {i : Int} : ER K (tC (.int i)) (dC (.int i)) := fun g d h H0 Oc pins ow σ H R Q q => by cases h; exact q _ H (Evl.Ex.refl H) (.int i)
theorem er_bl {i : Bool} : ER K (tC (.bl i)) (dC (.bl i)) := fun g d h H0 Oc pins ow σ H R Q q => by cases h; exact q _ H (Evl.Ex.refl H) (.bl i)
theorem er_str {i : Str} : ER K (tC (.str i)) (dC (.str i)) := fun g d h H0 Oc pins ow σ H R Q q => by cases h; exact q _ H (Evl.Ex.refl H) (.str i)
theorem er_non : ER K (tC .non) (dC .non) := fun g d h H0 Oc pins ow σ H R Q q => by cases h; exact q _ H (Evl.Ex.refl H) .non
theorem er_ty {n : String} : ER K (tC (.ty n)) (dC (.ty n)) := fun g d h H0 Oc pins ow σ H R Q q => by cases h; exact q _ H (Evl.Ex.refl H) (.ty n)
theorem er_2 {r : R2} {f : D → D → Option D} (hf : RR K r f) (ha : ER K ta a) (hb : ER K tb b) : ER K (tOp r ta tb) (d2 f a b) := fun g d h H0 Oc pins ow σ H R Q q => by
  unfold d2 at h
  cases ea : a g with
  | none => rw [ea] at h; cases h
  | some x =>
    rw [ea] at h
    cases eb : b g with
    | none => simp [eb] at h
    | some y =>
      simp only [Option.bind_some, eb] at h
      refine ha g x ea H0 Oc pins ow σ H R _ fun v H1 e1 r1 => ?_
      refine hb g y eb H0 Oc pins ow σ H1 (R.grow e1) _ fun w H2 e2 r2 => ?_
      exact hf x y d h (OO Oc ow) H2 v w ((R.grow e1).grow e2).oo (r1.ex e2) r2 Q fun z H3 e3 r3 => q z H3 ((e1.trans e2).trans e3) r3
theorem ar_nil : AR K tNil aNil := fun g d h H0 Oc pins ow σ H R Q q => by cases h; exact q _ H (Evl.Ex.refl H) .nil
theorem ar_cons {tr : TA} {r : DAF} (ha : ER K ta a) (hr : AR K tr r) : AR K (tCons ta tr) (aCons a r) := fun g d h H0 Oc pins ow σ H R Q q => by
  unfold aCons at h
  cases ea : a g with
  | none => rw [ea] at h; cases h
  | some x =>
    rw [ea] at h
    cases eb : r g with
    | none => simp [eb] at h
    | some y =>
      simp only [Option.bind_some, eb] at h
      cases h
      refine ha g x ea H0 Oc pins ow σ H R _ fun v H1 e1 r1 => ?_
      refine hr g y eb H0 Oc pins ow σ H1 (R.grow e1) _ fun w H2 e2 r2 => ?_
      exact q _ H2 (e1.trans e2) (.cons (r1.ex e2) r2)
theorem er_n {r : List V → Hp → VK → Prop} {f : List D → Option D} {tr : TA} {s : DAF} (hf : RC K r f) (ha : AR K tr s) : ER K (tCB r tr) (dN f s) := fun g d h H0 Oc pins ow σ H R Q q => by
  unfold dN at h
  cases ea : s g with
  | none => rw [ea] at h; cases h
  | some x =>
    rw [ea] at h
    refine ha g x ea H0 Oc pins ow σ H R _ fun v H1 e1 r1 => ?_
    exact hf x d h (OO Oc ow) H1 v (R.grow e1).oo r1 Q fun z H3 e3 r3 => q z H3 (e1.trans e3) r3
theorem new_not {O : Addr → Prop} {H : Hp} {p : Addr} (o : ∀ a, O a → Lv H a) (h : H p = none) : ¬ O p := fun z => (o p z).1 h
theorem er_tup {tr : TA} {s : DAF} (ha : AR K tr s) : ER K (tTup tr) (dN mkTup s) := fun g d h H0 Oc pins ow σ H R Q q => by
  unfold dN at h
  cases ea : s g with
  | none => rw [ea] at h; cases h
  | some x =>
    rw [ea] at h
    unfold mkTup at h
    simp only [Option.bind_some] at h
    split at h
    · rename_i hl
      cases h
      refine ha g x ea H0 Oc pins ow σ H R _ fun v H1 e1 r1 => ⟨by rw [r1.len]; exact Evl.sz_of hl, fun p hp => ?_⟩
      have e2 := Evl.Ex.new (o := .tup v) hp
      exact q _ _ (e1.trans e2) (.tup (new_not (R.grow e1).oo hp) upd_same (r1.ex e2))
    · cases h
theorem er_lst {tr : TA} {s : DAF} (ha : AR K tr s) : ER K (tLst tr) (dN mkLst s) := fun g d h H0 Oc pins ow σ H R Q q => by
  unfold dN at h
  cases ea : s g with
  | none => rw [ea] at h; cases h
  | some x =>
    rw [ea] at h
    unfold mkLst at h
    simp only [Option.bind_some] at h
    split at h
    · rename_i hl
      cases h
      refine ha g x ea H0 Oc pins ow σ H R _ fun v H1 e1 r1 => ⟨by rw [r1.len]; exact Evl.sz_of hl, fun p hp => ?_⟩
      have e2 := Evl.Ex.new (o := .lst v) hp
      exact q _ _ (e1.trans e2) (.lst (new_not (R.grow e1).oo hp) upd_same (r1.ex e2))
    · cases h

/-! ### tests -/
def truD : D → Option Bool
  | .non => some false
  | .bl b => some b
  | .int i => some (i != 0)
  | .str s => if s.length ≤ 100000 then some ((s.length : Int) != 0) else none
  | .lst ds => some (!ds.isEmpty)
  | .tup ds => some (!ds.isEmpty)
  | _ => none
theorem RpA.isEmpty {O : Addr → Prop} {H : Hp} {vs : List V} {ds : List D} (r : RpA K O H vs ds) : vs.isEmpty = ds.isEmpty := by
  cases r <;> rfl
theorem tru_rp {O : Addr → Prop} {H : Hp} {v : V} {d : D} {b : Bool} (r : Rp K O H v d) (h : truD d = some b) : TruV K v H b := by
  cases r with
  | non => cases h; exact rfl
  | bl b => cases h; exact rfl
  | int i => cases h; exact rfl
  | str s =>
    have h : (if s.length ≤ 100000 then some ((s.length : Int) != 0) else none) = some b := h
    split at h
    · rename_i hl
      cases h
      exact ⟨Evl.sz_of hl, rfl⟩
    · cases h
  | lst n e x => cases h; exact .inl ⟨_, .of e, by rw [x.isEmpty]⟩
  | tup n e x => cases h; exact .inr (.inl ⟨_, .of e, by rw [x.isEmpty]⟩)
  | dct n e x r => cases h
  | dck n e x r => cases h
  | sti n e => cases h
  | exn n e r => cases h
  | adr r => cases h
  | scr n e => cases h
  | kscr e => cases h
  | ins n e x => cases h
  | ty n => cases h
  | cls C => cases h
/-- a test by the truth of a value -/
def tTru (K : PySem.W.Frag) (te : TE) : TT := fun σ H Q => te σ H fun x H1 => ∃ k, TruV K x H1 k ∧ Q k H1
def tDt (f : D → Option Bool) (a : DF) : DTF := fun g => (a g).bind f
theorem tr_tru (ha : ER K ta a) : TR K (tTru K ta) (tDt truD a) := fun g d h H0 Oc pins ow σ H R Q q => by
  unfold tDt at h
  cases ea : a g with
  | none => rw [ea] at h; cases h
  | some x =>
    rw [ea] at h
    exact ha g x ea H0 Oc pins ow σ H R _ fun v H1 e1 r1 => ⟨d, tru_rp r1 h, q H1 e1⟩
def blD : D → Option Bool
  | .bl b => some b
  | _ => none
theorem tr_test (ha : ER K ta a) : TR K (tTest ta) (tDt blD a) := fun g d h H0 Oc pins ow σ H R Q q => by
  unfold tDt at h
  cases ea : a g with
  | none => rw [ea] at h; cases h
  | some x =>
    rw [ea] at h
    cases x <;> first | cases h | skip
    exact ha g _ ea H0 Oc pins ow σ H R _ fun v H1 e1 r1 => by
      cases r1
      exact ⟨_, rfl, q H1 e1⟩
def dAndT (a b : DTF) : DTF := fun g => (a g).bind fun x => if x = true then b g else some false
def dOrT (a b : DTF) : DTF := fun g => (a g).bind fun x => if x = true then some true else b g
def dNotT (a : DTF) : DTF := fun g => (a g).map (!·)
theorem tr_and (ha : TR K tt t) (hb : TR K tu u) : TR K (tAnd tt tu) (dAndT t u) := fun g d h H0 Oc pins ow σ H R Q q => by
  unfold dAndT at h
  cases ea : t g with
  | none => rw [ea] at h; cases h
  | some x =>
    rw [ea] at h
    simp only [Option.bind_some] at h
    refine ha g x ea H0 Oc pins ow σ H R _ fun H1 e1 => ?_
    cases x with
    | true =>
      rw [if_pos rfl] at h
      show tu σ H1 Q
      exact hb g d h H0 Oc pins ow σ H1 (R.grow e1) Q fun H2 e2 => q H2 (e1.trans e2)
    | false =>
      rw [if_neg Bool.false_ne_true] at h
      cases h
      show Q false H1
      exact q H1 e1
theorem tr_or (ha : TR K tt t) (hb : TR K tu u) : TR K (tOr tt tu) (dOrT t u) := fun g d h H0 Oc pins ow σ H R Q q => by
  unfold dOrT at h
  cases ea : t g with
  | none => rw [ea] at h; cases h
  | some x =>
    rw [ea] at h
    simp only [Option.bind_some] at h
    refine ha g x ea H0 Oc pins ow σ H R _ fun H1 e1 => ?_
    cases x with
    | true =>
      rw [if_pos rfl] at h
      cases h
      show Q true H1
      exact q H1 e1
    | false =>
      rw [if_neg Bool.false_ne_true] at h
      show tu σ H1 Q
      exact hb g d h H0 Oc pins ow σ H1 (R.grow e1) Q fun H2 e2 => q H2 (e1.trans e2)
theorem tr_not (ha : TR K tt t) : TR K (tNot tt) (dNotT t) := fun g d h H0 Oc pins ow σ H R Q q => by
  unfold dNotT at h
  cases ea : t g with
  | none => rw [ea] at h; cases h
  | some x =>
    rw [ea] at h
    cases h
    exact ha g x ea H0 Oc pins ow σ H R _ fun H1 e1 => q H1 e1
/-- and, or, not as values (bools) -/
def dAndV (a b : DF) : DF := fun g => (a g).bind fun x => match x with
  | .bl true => b g
  | .bl false => some (.bl false)
  | _ => none
def dOrV (a b : DF) : DF := fun g => (a g).bind fun x => match x with
  | .bl true => some (.bl true)
  | .bl false => b g
  | _ => none
def notD : D → Option D
  | .bl b => some (.bl (!b))
  | _ => none
theorem er_and (ha : ER K ta a) (hb : ER K tb b) : ER K (tAndV ta tb) (dAndV a b) := fun g d h H0 Oc pins ow σ H R Q q => by
  unfold dAndV at h
  cases ea : a g with
  | none => rw [ea] at h; cases h
  | some x =>
    rw [ea] at h
    simp only [Option.bind_some] at h
    cases x <;> first | cases h | skip
    rename_i k
    refine ha g _ ea H0 Oc pins ow σ H R _ fun v H1 e1 r1 => ?_
    cases r1
    refine ⟨k, rfl, ?_⟩
    cases k with
    | true =>
      show tb σ H1 Q
      exact hb g d h H0 Oc pins ow σ H1 (R.grow e1) Q fun v H2 e2 => q v H2 (e1.trans e2)
    | false =>
      cases h
      show Q (.bl false) H1
      exact q _ H1 e1 (.bl false)
theorem er_or (ha : ER K ta a) (hb : ER K tb b) : ER K (tOrV ta tb) (dOrV a b) := fun g d h H0 Oc pins ow σ H R Q q => by
  unfold dOrV at h
  cases ea : a g with
  | none => rw [ea] at h; cases h
  | some x =>
    rw [ea] at h
    simp only [Option.bind_some] at h
    cases x <;> first | cases h | skip
    rename_i k
    refine ha g _ ea H0 Oc pins ow σ H R _ fun v H1 e1 r1 => ?_
    cases r1
    refine ⟨k, rfl, ?_⟩
    cases k with
    | true =>
      cases h
      show Q (.bl true) H1
      exact q _ H1 e1 (.bl true)
    | false =>
      show tb σ H1 Q
      exact hb g d h H0 Oc pins ow σ H1 (R.grow e1) Q fun v H2 e2 => q v H2 (e1.trans e2)
theorem er_not (ha : ER K ta a) : ER K (tNotV ta) (d1 notD a) := fun g d h H0 Oc pins ow σ H R Q q => by
  unfold d1 at h
  cases ea : a g with
  | none => rw [ea] at h; cases h
  | some x =>
    rw [ea] at h
    simp only [Option.bind_some] at h
    cases x <;> first | cases h | skip
    rename_i k
    refine ha g _ ea H0 Oc pins ow σ H R _ fun v H1 e1 r1 => ?_
    cases r1
    exact ⟨k, rfl, q _ H1 e1 (.bl _)⟩
/-- x if c else y -/
def dIf (t : DTF) (a b : DF) : DF := fun g => (t g).bind fun x => if x = true then a g else b g
theorem er_if (ht : TR K tt t) (ha : ER K ta a) (hb : ER K tb b) : ER K (tIf tt ta tb) (dIf t a b) := fun g d h H0 Oc pins ow σ H R Q q => by
  unfold dIf at h
  cases ea : t g with
  | none => rw [ea] at h; cases h
  | some x =>
    rw [ea] at h
    simp only [Option.bind_some] at h
    refine ht g x ea H0 Oc pins ow σ H R _ fun H1 e1 => ?_
    cases x with
    | true =>
      rw [if_pos rfl] at h
      show ta σ H1 Q
      exact ha g d h H0 Oc pins ow σ H1 (R.grow e1) Q fun v H2 e2 => q v H2 (e1.trans e2)
    | false =>
      rw [if_neg Bool.false_ne_true] at h
      show tb σ H1 Q
      exact hb g d h H0 Oc pins ow σ H1 (R.grow e1) Q fun v H2 e2 => q v H2 (e1.trans e2)
/-- a < b < c -/
def dChain (f f' : D → D → Option D) (a b c : DF) : DF := fun g => (a g).bind fun x => (b g).bind fun y => (f x y).bind fun z => match z with
  | .bl true => (c g).bind fun w => f' y w
  | .bl false => some (.bl false)
  | _ => none
theorem er_chain {r r' : R2} {f f' : D → D → Option D} (hf : RR K r f) (hf' : RR K r' f') (ha : ER K ta a) (hb : ER K tb b) (hc : ER K tc c) : ER K (tChain r r' ta tb tc) (dChain f f' a b c) := fun g d h H0 Oc pins ow σ H R Q q => by
  unfold dChain at h
  cases ea : a g with
  | none => rw [ea] at h; cases h
  | some x =>
    rw [ea] at h
    cases eb : b g with
    | none => simp [eb] at h
    | some y =>
      simp only [Option.bind_some, eb] at h
      cases ef : f x y with
      | none => rw [ef] at h; cases h
      | some z =>
        rw [ef] at h
        simp only [Option.bind_some] at h
        cases z <;> first | cases h | skip
        rename_i k
        refine ha g x ea H0 Oc pins ow σ H R _ fun v H1 e1 r1 => ?_
        refine hb g y eb H0 Oc pins ow σ H1 (R.grow e1) _ fun w H2 e2 r2 => ?_
        refine hf x y _ ef (OO Oc ow) H2 v w ((R.grow e1).grow e2).oo (r1.ex e2) r2 _ fun z H3 e3 r3 => ?_
        cases r3
        refine ⟨k, rfl, ?_⟩
        cases k with
        | false =>
          cases h
          show Q (.bl false) H3
          exact q _ H3 ((e1.trans e2).trans e3) (.bl false)
        | true =>
          cases ec : c g with
          | none => simp [ec] at h
          | some w' =>
            simp only [ec, Option.bind_some] at h
            show tc σ H3 fun w' H4 => r' w w' H4 Q
            refine hc g w' ec H0 Oc pins ow σ H3 (((R.grow e1).grow e2).grow e3) _ fun u' H4 e4 r4 => ?_
            exact hf' y w' d h (OO Oc ow) H4 w u' ((((R.grow e1).grow e2).grow e3).grow e4).oo ((r2.ex e3).ex e4) r4 Q fun z H5 e5 r5 => q z H5 ((((e1.trans e2).trans e3).trans e4).trans e5) r5
/-- peeking: a test, or a flat value, may look at what is owned -/
def peekT (t : DTF) : DTF := fun g => t (frzAll g)
end
end Zk
end

section
set_option Elab.async false
set_option linter.all false
set_option maxRecDepth 100000
set_option maxHeartbeats 4000000
/-! min, sorted, enumerate over tuples -/
namespace TS
open PySem PySem.Spec PySem.Calls PyProof.Rows L2
section
variable {prog : Program} {w : World} {A : Around} {E : Value → Shared → Prop} {s : Shared} {t : Addr}
theorem min_intTup {xs : Array (Int × Tok)} {Q : Value → Shared → Prop} (hh : A.handled = none) (hl : s.heap.IsTuple t (intItems xs)) (hne : 0 < xs.size)
    (h : ∀ v h' tk, (intItems xs)[argBest (fun i j => decide (numAt xs i < numAt xs j)) (xs.size - 1)]? = some v → (∀ b o, s.heap.get? b = some o → h'.get? b = some o) → Q v { s with heap := h', toks := tk }) :
    wpAny (model prog w) A (call (.builtin "min") [.ref t]) Q E s := by
  obtain ⟨o, ho, _⟩ := id hl
  have hlt : t < s.heap.objs.size := Heap.lt_size ho
  refine call_min_walk (wpAny_pyIter_tuple hl ?_)
  refine ⟨_, _, _, _, _, _, _, rfl, Walks.tuple (A := A.in1) hh _ t (Nat.ne_of_lt hlt) (intItems xs), ⟨⟨_, Heap.get?_push_size _ rfl, rfl, rfl⟩, hl.push _⟩, fun b hb => ?_, by simpa [intItems] using hne, CmpOf.ints_lt (numAt xs) (fun _ _ => intItems_at), fun v h' tk hP hk => ?_⟩
  · show b < (s.heap.push _).objs.size
    rw [Heap.size_push]
    rcases List.mem_cons.mp hb with rfl | hb
    · exact Nat.lt_succ_self _
    · rcases List.mem_cons.mp hb with rfl | hb
      · exact Nat.lt_succ_of_lt hlt
      · cases hb
  · refine h v h' tk (by simpa [intItems] using hP) fun b o e => hk b o (fun hm => ?_) (Heap.get?_push_of_some _ e)
    rcases List.mem_cons.mp hm with e1 | hm
    · exact absurd (e1 ▸ Heap.lt_size e) (Nat.lt_irrefl _)
    · cases hm
theorem min_rawT {its : List Value} {ns : List Int} {Q : Value → Shared → Prop} (hh : A.handled = none) (hl : s.heap.IsTuple t its.toArray) (hi : IntsAre its ns) (hne : 0 < ns.length)
    (h : ∀ h' tk M t', (∀ b o, s.heap.get? b = some o → h'.get? b = some o) → M ∈ ns → (∀ a, a ∈ ns → M ≤ a) → Q (.int M t') { s with heap := h', toks := tk }) : wpAny (model prog w) A (call (.builtin "min") [.ref t]) Q E s := by
  obtain ⟨xs, e⟩ := hi.allInts.items
  have hn : numsOf (intItems xs).toList = ns := by rw [← e]; exact hi.numsOf
  rw [nums_intItems] at hn
  subst hn
  rw [e] at hl
  have hsz : 0 < xs.size := by simpa using hne
  refine min_intTup hh hl hsz fun v h' tk hv hk => ?_
  obtain ⟨t, rfl⟩ := intItems_at hv
  obtain ⟨h1, h2⟩ := argBest_lt (numAt xs) (xs.size - 1)
  refine h h' tk _ t hk ?_ fun a ha => ?_
  · rw [numAt_eq]; exact PySem.getD_mem (by rw [List.length_map, Array.length_toList]; omega)
  · obtain ⟨j, hj, rfl⟩ := mem_getD ha
    rw [List.length_map, Array.length_toList] at hj
    rw [← numAt_eq]; exact h2 j (by omega)
end
section
variable {X : Cx}
def rMinT (K : PySem.W.Frag) : List V → Hp → VK → Prop := fun vs H Q => ∃ (a : Addr) (ns : List Int), vs = [V.ref a] ∧ SqT K H a (ns.map V.int) ∧ 0 < ns.length ∧ ∀ m, m ∈ ns → (∀ y, y ∈ ns → m ≤ y) → Q (.int m) H
theorem tupOf {h : Heap} {a : Addr} {its : Array Value} (x : IsTup h a its) : h.IsTuple a its := by
  obtain ⟨o, ho, hc, n, hd⟩ := x
  exact ⟨o, ho, hc, n, hd⟩
theorem cr_minT (hc : X.calm = true) : CallR X (.builtin "min") (rMinT X.K) := by
  intro pins s σ H vs us Q I r h
  obtain ⟨a, ns, rfl, hs, hne, q⟩ := h
  obtain ⟨its, rv, hl, _⟩ := I.tuple hs
  rw [Vals.ref1 r]
  exact min_rawT (I.ok.hd hc) (tupOf hl) rv.ints hne fun h' tk m t' hk h1 h2 => ⟨.int _, H, I.kept hk, ⟨_, rfl⟩, q m h1 h2⟩
end
end TS
namespace TS
open PySem PySem.Spec PySem.Calls PyProof.Rows L2 SrtO
section
variable {prog : Program} {w : World} {A : Around} {E : Value → Shared → Prop} {s : Shared}
end
/-! ### enumerate(a tuple) -/
end TS
namespace TS
open PySem PySem.Spec PySem.Calls PyProof.Rows L2
section
variable {prog : Program} {w : World} {A : Around} {E : Value → Shared → Prop} {s : Shared}
end
end TS
end

section
set_option Elab.async false
set_option linter.all false
set_option maxRecDepth 100000
set_option autoImplicit false
set_option maxHeartbeats 2000000
/-! Operators, calls, subscripts on data. -/
namespace Zk
open PySem L2 PyProof.Rows
open Evl (Ex)

/-! ### what the machine's rules are joined to -/
def CMulX (i j : Int) : Prop := i.natAbs.log2 + j.natAbs.log2 < 100000000
theorem CMulX.ok {i j : Int} (h : CMulX i j) : IntMulOk i j := by
  have b : ∀ x : Int, Builtin.Int.intBits x ≤ x.natAbs.log2 + 1 := fun x => by
    unfold Builtin.Int.intBits
    split <;> omega
  have h1 := b i
  have h2 := b j
  have h3 : i.natAbs.log2 + j.natAbs.log2 < 100000000 := h
  have e : bitsLine = 134217728 := by decide
  unfold IntMulOk
  intro z
  rw [Bool.and_eq_true] at z
  have z2 := z.2
  unfold Builtin.Int.intTooBig at z2
  have z3 := of_decide_eq_true z2
  rw [e] at z3
  omega
section
variable {X : Cx}
theorem op_mulX : OpR X (binaryOp .Mult) (rI CMulX fun i j => .int (i * j)) := opI fun _ _ _ _ _ _ _ hc q => mul_int q hc.ok
def rAddA : R2 := fun x y H Q => rI0 (fun i j => .int (i + j)) x y H Q ∨ (∃ i j, x = .str i ∧ y = .str j ∧ i.length + j.length ≤ sizeLine ∧ Q (.str (i ++ j)) H) ∨ rCat x y H Q
theorem op_addA : OpR X (binaryOp .Add) rAddA := op_add.or (op_add_str.or op_cat)
def rMulA : R2 := fun x y H Q => rI CMulX (fun i j => .int (i * j)) x y H Q ∨ rRep x y H Q
theorem op_mulA : OpR X (binaryOp .Mult) rMulA := op_mulX.or op_rep
def rLenA (K : PySem.W.Frag) : List V → Hp → VK → Prop := fun xs H Q => (∃ p ys, xs = [.ref p] ∧ (SqL K H p ys ∨ SqT K H p ys) ∧ Q (.int ys.length) H) ∨ ∃ z, xs = [.str z] ∧ z.length ≤ sizeLine ∧ Q (.int z.length) H
theorem call_lenA : CallR X (.builtin "len") (rLenA X.K) := call_len_seq.or call_len_str
def rMinA (K : PySem.W.Frag) : List V → Hp → VK → Prop := fun xs H Q => (rMin K xs H Q ∨ (∃ i j, xs = [.int i, .int j] ∧ Q (.int (if j < i then j else i)) H)) ∨ TS.rMinT K xs H Q
theorem call_minA (hc : X.calm = true) : CallR X (.builtin "min") (rMinA X.K) := ((cr_min hc).or (call_min2 hc)).or (TS.cr_minT hc)
end

/-! ### the same on data -/
def addD : D → D → Option D
  | .int i, .int j => some (.int (i + j))
  | .str a, .str b => if a.length + b.length ≤ 100000 then some (.str (a ++ b)) else none
  | .lst a, .lst b => if a.length + b.length ≤ 100000 then some (.lst (a ++ b)) else none
  | _, _ => none
def subD : D → D → Option D
  | .int i, .int j => some (.int (i - j))
  | _, _ => none
def mulD : D → D → Option D
  | .int i, .int j => if i.natAbs.log2 + j.natAbs.log2 < 100000000 then some (.int (i * j)) else none
  | .lst a, .int k => if k ≤ 100000 ∧ -100000 ≤ k ∧ a.length * k.toNat ≤ 100000 then some (.lst (List.replicate k.toNat a).flatten) else none
  | _, _ => none
def fdivD : D → D → Option D
  | .int i, .int j => if 0 < j ∧ j.natAbs.log2 < 9000 then some (.int (i / j)) else none
  | _, _ => none
def modD : D → D → Option D
  | .int i, .int j => if 0 < j then some (.int (i % j)) else none
  | _, _ => none
def powD : D → D → Option D
  | .int i, .int j => if 0 ≤ j ∧ j ≤ 1000000 ∧ i.natAbs < 2 ^ 64 then some (.int (i ^ j.toNat)) else none
  | _, _ => none
def ltD : D → D → Option D
  | .int i, .int j => some (.bl (decide (i < j)))
  | _, _ => none
def leD : D → D → Option D
  | .int i, .int j => some (.bl (decide (i ≤ j)))
  | _, _ => none
def gtD : D → D → Option D
  | .int i, .int j => some (.bl (decide (j < i)))
  | _, _ => none
def geD : D → D → Option D
  | .int i, .int j => some (.bl (decide (j ≤ i)))
  | _, _ => none

section
variable {K : PySem.W.Frag}
theorem rr_fin {O : Addr → Prop} {H : Hp} {Q : VK} {v : V} {d : D} (q : ∀ w H', Ex H H' → Rp K O H' w d → Q w H') (r : Rp K O H v d) : Q v H := q v H (Evl.Ex.refl H) r
theorem rr_newL {O : Addr → Prop} {H : Hp} {Q : VK} {vs : List V} {ds : List D} (o : ∀ a, O a → Lv H a) (q : ∀ w H', Ex H H' → Rp K O H' w (.lst ds) → Q w H') (r : RpA K O H vs ds) : ∀ p, H p = none → Q (.ref p) (upd H p (.lst vs)) := fun p hp =>
  q _ _ (Evl.Ex.new hp) (.lst (new_not o hp) upd_same (r.ex (Evl.Ex.new hp)))
theorem rr_newT {O : Addr → Prop} {H : Hp} {Q : VK} {vs : List V} {ds : List D} (o : ∀ a, O a → Lv H a) (q : ∀ w H', Ex H H' → Rp K O H' w (.tup ds) → Q w H') (r : RpA K O H vs ds) : ∀ p, H p = none → Q (.ref p) (upd H p (.tup vs)) := fun p hp =>
  q _ _ (Evl.Ex.new hp) (.tup (new_not o hp) upd_same (r.ex (Evl.Ex.new hp)))
theorem rr_add : RR K rAddA addD := fun x y d h O H v u o rx ry Q q => by
  unfold addD at h
  split at h
  · cases h; cases rx; cases ry
    exact .inl ⟨_, _, rfl, rfl, rr_fin q (.int _)⟩
  · split at h
    · rename_i hl
      cases h; cases rx; cases ry
      exact .inr (.inl ⟨_, _, rfl, rfl, Evl.sz_of hl, rr_fin q (.str _)⟩)
    · cases h
  · split at h
    · rename_i hl
      cases h
      cases rx with
      | lst n e r =>
        cases ry with
        | lst n' e' r' => exact .inr (.inr ⟨_, _, _, _, rfl, rfl, e, e', by rw [r.len, r'.len]; exact Evl.sz_of hl, rr_newL o q (r.app r')⟩)
    · cases h
  · cases h
theorem rr_ii {f : D → D → Option D} {g : Int → Int → V} (gd : Int → Int → D) (hf : ∀ x y d, f x y = some d → ∃ i j, x = .int i ∧ y = .int j ∧ d = gd i j) (hg : ∀ (i j : Int) (O : Addr → Prop) (H : Hp), Rp K O H (g i j) (gd i j)) : RR K (rI0 g) f := fun x y d h O H v u o rx ry Q q => by
  obtain ⟨i, j, rfl, rfl, rfl⟩ := hf x y d h
  cases rx; cases ry
  exact ⟨i, j, rfl, rfl, rr_fin q (hg i j O H)⟩
theorem rr_iic {C : Int → Int → Prop} {f : D → D → Option D} {g : Int → Int → V} (gd : Int → Int → D) (hf : ∀ x y d, f x y = some d → ∃ i j, x = .int i ∧ y = .int j ∧ C i j ∧ d = gd i j) (hg : ∀ (i j : Int) (O : Addr → Prop) (H : Hp), Rp K O H (g i j) (gd i j)) : RR K (rI C g) f := fun x y d h O H v u o rx ry Q q => by
  obtain ⟨i, j, rfl, rfl, hc, rfl⟩ := hf x y d h
  cases rx; cases ry
  exact ⟨i, j, rfl, rfl, hc, rr_fin q (hg i j O H)⟩
theorem rr_lt : RR K (rI0 fun i j => .bl (decide (i < j))) ltD := rr_ii (fun i j => .bl (decide (i < j))) (fun x y d h => by unfold ltD at h; split at h <;> first | (cases h; exact ⟨_, _, rfl, rfl, rfl⟩) | cases h) fun i j O H => .bl _
theorem rr_le : RR K (rI0 fun i j => .bl (decide (i ≤ j))) leD := rr_ii (fun i j => .bl (decide (i ≤ j))) (fun x y d h => by unfold leD at h; split at h <;> first | (cases h; exact ⟨_, _, rfl, rfl, rfl⟩) | cases h) fun i j O H => .bl _
theorem rr_gt : RR K (rI0 fun i j => .bl (decide (j < i))) gtD := rr_ii (fun i j => .bl (decide (j < i))) (fun x y d h => by unfold gtD at h; split at h <;> first | (cases h; exact ⟨_, _, rfl, rfl, rfl⟩) | cases h) fun i j O H => .bl _
theorem rr_ge : RR K (rI0 fun i j => .bl (decide (j ≤ i))) geD := rr_ii (fun i j => .bl (decide (j ≤ i))) (fun x y d h => by unfold geD at h; split at h <;> first | (cases h; exact ⟨_, _, rfl, rfl, rfl⟩) | cases h) fun i j O H => .bl _
theorem rr_fdiv : RR K (rI CDivW fun i j => .int (i / j)) fdivD := rr_iic (fun i j => .int (i / j)) (fun x y d h => by
  unfold fdivD at h
  split at h
  · split at h
    · rename_i hc
      cases h; exact ⟨_, _, rfl, rfl, hc, rfl⟩
    · cases h
  · cases h) fun i j O H => .int _
theorem rr_mod : RR K (rI (fun _ j => 0 < j) fun i j => .int (i % j)) modD := rr_iic (fun i j => .int (i % j)) (fun x y d h => by
  unfold modD at h
  split at h
  · split at h
    · rename_i hc
      cases h; exact ⟨_, _, rfl, rfl, hc, rfl⟩
    · cases h
  · cases h) fun i j O H => .int _
theorem rr_pow : RR K (rI CPow fun i j => .int (i ^ j.toNat)) powD := rr_iic (fun i j => .int (i ^ j.toNat)) (fun x y d h => by
  unfold powD at h
  split at h
  · split at h
    · rename_i hc
      cases h; exact ⟨_, _, rfl, rfl, hc, rfl⟩
    · cases h
  · cases h) fun i j O H => .int _
theorem RpA.rep {O : Addr → Prop} {H : Hp} {vs : List V} {ds : List D} (r : RpA K O H vs ds) : ∀ k : Nat, RpA K O H (List.replicate k vs).flatten (List.replicate k ds).flatten
  | 0 => .nil
  | k + 1 => by
    rw [List.replicate_succ, List.replicate_succ, List.flatten_cons, List.flatten_cons]
    exact r.app (RpA.rep r k)
theorem rr_mul : RR K rMulA mulD := fun x y d h O H v u o rx ry Q q => by
  unfold mulD at h
  split at h
  · split at h
    · rename_i hc
      cases h; cases rx; cases ry
      exact .inl ⟨_, _, rfl, rfl, hc, rr_fin q (.int _)⟩
    · cases h
  · split at h
    · rename_i hc
      cases h
      cases rx with
      | lst n e r =>
        cases ry
        obtain ⟨h1, h2, h3⟩ := hc
        exact .inr ⟨_, _, _, rfl, rfl, e, by omega, by omega, by rw [r.len]; exact Evl.sz_of h3, rr_newL o q (r.rep _)⟩
    · cases h
  · cases h
end
end Zk
end

section
set_option Elab.async false
set_option linter.all false
set_option maxRecDepth 100000
set_option autoImplicit false
set_option maxHeartbeats 2000000
/-! Comparisons, subscripts, built-in calls on data. -/
namespace Zk
open PySem L2 PyProof.Rows
open Evl (Ex)

/-! ### ==, != at any depth -/
mutual
def toP : D → Option PyData
  | .non => some .none
  | .bl b => some (.bool b)
  | .int i => some (.int i)
  | .str s => some (.str s)
  | .lst ds => (toPs ds).map .list
  | .tup ds => (toPs ds).map .tuple
  | _ => none
def toPs : List D → Option (List PyData)
  | [] => some []
  | d :: ds => (toP d).bind fun p => (toPs ds).map (p :: ·)
end
section
variable {K : PySem.W.Frag} {O : Addr → Prop} {H : Hp}
mutual
theorem dp_of : ∀ {d : D} {v : V} {p : PyData}, Rp K O H v d → toP d = some p → Dp K H v p
  | .non, _, _, .non, e => by cases e; exact .non
  | .bl _, _, _, .bl b, e => by cases e; exact .bl b
  | .int _, _, _, .int i, e => by cases e; exact .int i
  | .str _, _, _, .str s, e => by cases e; exact .str s
  | .lst ds, _, p, .lst n h r, e => by
    unfold toP at e
    cases q : toPs ds with
    | none => rw [q] at e; cases e
    | some ps =>
      rw [q] at e
      cases e
      exact .lst (.of h) (dps_of r q)
  | .tup ds, _, p, .tup n h r, e => by
    unfold toP at e
    cases q : toPs ds with
    | none => rw [q] at e; cases e
    | some ps =>
      rw [q] at e
      cases e
      exact .tup (.of h) (dps_of r q)
  | .scr _, _, _, _, e => by cases e
  | .ins _ _, _, _, _, e => by cases e
  | .dct _, _, _, _, e => by cases e
  | .dck _, _, _, _, e => by cases e
  | .sti _ _, _, _, _, e => by cases e
  | .exn _ _ _ _, _, _, _, e => by cases e
  | .adr _ _, _, _, _, e => by cases e
  | .ty _, _, _, _, e => by cases e
  | .cls _, _, _, _, e => by cases e
theorem dps_of : ∀ {ds : List D} {vs : List V} {ps : List PyData}, RpA K O H vs ds → toPs ds = some ps → DpAll K H vs ps
  | [], _, _, .nil, e => by cases e; exact .nil
  | d :: ds, _, ps, .cons h r, e => by
    unfold toPs at e
    cases q : toP d with
    | none => rw [q] at e; cases e
    | some p =>
      rw [q] at e
      cases q2 : toPs ds with
      | none => simp [q2] at e
      | some ps' =>
        simp only [Option.bind_some, q2, Option.map_some] at e
        cases e
        exact .cons (dp_of h q) (dps_of r q2)
end
end
def eqB (x y : D) : Option Bool := (toP x).bind fun p => (toP y).bind fun q => if SeqAt.shaped p && SeqAt.shaped q then some (PyData.eqv p q) else none
def eqD (x y : D) : Option D := (eqB x y).map .bl
def neD (x y : D) : Option D := (eqB x y).map fun b => .bl (!b)
theorem eqB_get {x y : D} {b : Bool} (h : eqB x y = some b) : ∃ p q, toP x = some p ∧ toP y = some q ∧ SeqAt.shaped p = true ∧ SeqAt.shaped q = true ∧ b = PyData.eqv p q := by
  unfold eqB at h
  cases hx : toP x with
  | none => rw [hx] at h; cases h
  | some p =>
    rw [hx] at h
    cases hy : toP y with
    | none => simp [hy] at h
    | some q =>
      simp only [Option.bind_some, hy] at h
      split at h
      · rename_i c
        cases h
        rw [Bool.and_eq_true] at c
        exact ⟨p, q, rfl, rfl, c.1, c.2, rfl⟩
      · cases h
section
variable {K : PySem.W.Frag}
theorem rr_eq : RR K (rEqD K) eqD := fun x y d h O H v u o rx ry Q q => by
  unfold eqD at h
  cases e : eqB x y with
  | none => rw [e] at h; cases h
  | some b =>
    rw [e] at h
    cases h
    obtain ⟨p, p', h1, h2, h3, h4, rfl⟩ := eqB_get e
    exact ⟨p, p', dp_of rx h1, dp_of ry h2, h3, h4, rr_fin q (.bl _)⟩
theorem rr_ne : RR K (rNeD K) neD := fun x y d h O H v u o rx ry Q q => by
  unfold neD at h
  cases e : eqB x y with
  | none => rw [e] at h; cases h
  | some b =>
    rw [e] at h
    cases h
    obtain ⟨p, p', h1, h2, h3, h4, rfl⟩ := eqB_get e
    exact ⟨p, p', dp_of rx h1, dp_of ry h2, h3, h4, rr_fin q (.bl _)⟩
/-- is None -/
def rIsN : R2 := fun x y H Q => y = .non ∧ Q (.bl (decide (x = .non))) H
def rNotN : R2 := fun x y H Q => y = .non ∧ Q (.bl (!decide (x = .non))) H
def isNonD : D → Bool
  | .non => true
  | _ => false
def isD (x : D) : D → Option D
  | .non => some (.bl (isNonD x))
  | _ => none
def isntD (x : D) : D → Option D
  | .non => some (.bl (!isNonD x))
  | _ => none
theorem isNon_rp {O : Addr → Prop} {H : Hp} {v : V} {d : D} (r : Rp K O H v d) : decide (v = .non) = isNonD d := by
  cases r <;> first | rfl | (show decide (V.ref _ = V.non) = false; exact decide_eq_false (fun q => by cases q)) | exact decide_eq_false (fun q => by cases q)
theorem rr_is : RR K rIsN isD := fun x y d h O H v u o rx ry Q q => by
  unfold isD at h
  split at h
  · cases h; cases ry
    exact ⟨rfl, by rw [isNon_rp rx]; exact rr_fin q (.bl _)⟩
  · cases h
theorem rr_isnt : RR K rNotN isntD := fun x y d h O H v u o rx ry Q q => by
  unfold isntD at h
  split at h
  · cases h; cases ry
    exact ⟨rfl, by rw [isNon_rp rx]; exact rr_fin q (.bl _)⟩
  · cases h
/-! ### in: flat items -/
def D.flat4 : D → Bool
  | .non => true | .bl _ => true | .int _ => true | .str _ => true | _ => false
def eqF : D → D → Bool
  | .non, .non => true
  | .bl a, .bl b => a == b
  | .bl a, .int b => (if a then 1 else 0) == b
  | .int a, .bl b => a == (if b then 1 else 0)
  | .int a, .int b => a == b
  | .str a, .str b => a == b
  | _, _ => false
theorem flat4_rp {O : Addr → Prop} {H : Hp} {v : V} {d : D} (r : Rp K O H v d) (f : d.flat4 = true) : flatV v = true := by
  cases r <;> first | rfl | cases f
theorem eqF_rp {O O' : Addr → Prop} {H H' : Hp} {v u : V} {d e : D} (r : Rp K O H v d) (s : Rp K O' H' u e) (f : d.flat4 = true) (f' : e.flat4 = true) : eqV v u = eqF d e := by
  cases r <;> first | (cases f; done) | (cases s <;> first | (cases f'; done) | rfl)
theorem flats_rp {O : Addr → Prop} {H : Hp} : ∀ {vs : List V} {ds : List D}, RpA K O H vs ds → ds.all D.flat4 = true → vs.all flatV = true
  | _, _, .nil, _ => rfl
  | _, _, .cons h r, f => by
    rw [List.all_cons, Bool.and_eq_true] at f ⊢
    exact ⟨flat4_rp h f.1, flats_rp r f.2⟩
theorem inV_rp {O : Addr → Prop} {H : Hp} {u : V} {e : D} (s : Rp K O H u e) (f' : e.flat4 = true) : ∀ {vs : List V} {ds : List D}, RpA K O H vs ds → ds.all D.flat4 = true → inV u vs = ds.any fun z => eqF z e
  | _, _, .nil, _ => rfl
  | _, _, .cons h r, f => by
    rw [List.all_cons, Bool.and_eq_true] at f
    have ih := inV_rp s f' r f.2
    unfold inV at ih ⊢
    rw [List.any_cons, List.any_cons, ih, eqF_rp h s f.1 f']
def inB (x : D) : D → Option Bool
  | .lst ds => if x.flat4 && ds.all D.flat4 then some (ds.any fun z => eqF z x) else none
  | .tup ds => if x.flat4 && ds.all D.flat4 then some (ds.any fun z => eqF z x) else none
  | _ => none
def inD (x y : D) : Option D := (inB x y).map .bl
def ninD (x y : D) : Option D := (inB x y).map fun b => .bl (!b)
theorem in_rp {O : Addr → Prop} {H : Hp} {x y : D} {v u : V} {b : Bool} (h : inB x y = some b) (rx : Rp K O H v x) (ry : Rp K O H u y) : ∃ p xs, u = .ref p ∧ (SqL K H p xs ∨ SqT K H p xs) ∧ flatV v = true ∧ xs.all flatV = true ∧ inV v xs = b := by
  unfold inB at h
  split at h
  · split at h
    · rename_i c
      cases h
      rw [Bool.and_eq_true] at c
      cases ry with
      | lst n e r => exact ⟨_, _, rfl, .inl (.of e), flat4_rp rx c.1, flats_rp r c.2, inV_rp rx c.1 r c.2⟩
    · cases h
  · split at h
    · rename_i c
      cases h
      rw [Bool.and_eq_true] at c
      cases ry with
      | tup n e r => exact ⟨_, _, rfl, .inr (.of e), flat4_rp rx c.1, flats_rp r c.2, inV_rp rx c.1 r c.2⟩
    · cases h
  · cases h
theorem rr_in : RR K (rIn K false) inD := fun x y d h O H v u o rx ry Q q => by
  unfold inD at h
  cases e : inB x y with
  | none => rw [e] at h; cases h
  | some b =>
    rw [e] at h
    cases h
    obtain ⟨p, xs, h1, h2, h3, h4, h5⟩ := in_rp e rx ry
    refine ⟨p, xs, h1, h2, h3, h4, ?_⟩
    rw [if_neg Bool.false_ne_true, h5]
    exact rr_fin q (.bl _)
/-! ### subscripts -/
def ixD : D → D → Option D
  | .lst ds, .int i => atI ds i
  | .tup ds, .int i => atI ds i
  | .scr ns, .int i => (atI ns i).map .int
  | .str s, .int i => if s.length ≤ 100000 then (atI s.cps.toList i).map fun c => .str ⟨#[c]⟩ else none
  | _, _ => none
theorem RpA.at {O : Addr → Prop} {H : Hp} {vs : List V} {ds : List D} {i : Int} {d : D} (r : RpA K O H vs ds) (h : atI ds i = some d) : ∃ v, atI vs i = some v ∧ Rp K O H v d := by
  unfold atI at h ⊢
  rw [r.len]
  cases e : ixN ds.length i with
  | none => rw [e] at h; cases h
  | some j =>
    rw [e] at h
    obtain ⟨v, h1, h2⟩ := r.get h
    exact ⟨v, h1, h2⟩
theorem atI_map {α β : Type} (f : α → β) (xs : List α) (i : Int) : atI (xs.map f) i = (atI xs i).map f := by
  unfold atI
  rw [List.length_map]
  cases ixN xs.length i with
  | none => rfl
  | some j => simp [List.getElem?_map]
theorem rr_ix : RR K (rIx K) ixD := fun x y d h O H v u o rx ry Q q => by
  unfold ixD at h
  split at h
  · cases ry
    cases rx with
    | lst n e r =>
      obtain ⟨w, h1, h2⟩ := r.at h
      exact .inl ⟨_, _, _, w, rfl, rfl, .of e, h1, rr_fin q h2⟩
  · cases ry
    cases rx with
    | tup n e r =>
      obtain ⟨w, h1, h2⟩ := r.at h
      exact .inr (.inl ⟨_, _, _, w, rfl, rfl, .of e, h1, rr_fin q h2⟩)
  · rename_i ns i
    cases ry
    cases e : atI ns i with
    | none => rw [e] at h; cases h
    | some k =>
      rw [e] at h
      cases h
      have e2 : atI (ns.map V.int) i = some (.int k) := by rw [atI_map, e] <;> rfl
      cases rx with
      | scr n r => exact .inl ⟨_, _, _, _, rfl, rfl, .inl r, e2, rr_fin q (.int k)⟩
      | kscr r => exact .inl ⟨_, _, _, _, rfl, rfl, r H, e2, rr_fin q (.int k)⟩
  · rename_i s i
    split at h
    · rename_i hl
      cases e : atI s.cps.toList i with
      | none => rw [e] at h; cases h
      | some k =>
        rw [e] at h
        cases h; cases rx; cases ry
        exact .inr (.inr ⟨_, _, _, rfl, rfl, Evl.sz_of hl, e, rr_fin q (.str _)⟩)
    · cases h
  · cases h
/-! ### slices -/
abbrev DOF : Type := Gm → Option (Option Int)
def oNone : DOF := fun _ => some none
def oSome (a : DF) : DOF := fun g => (a g).bind fun x => match x with
  | .int i => some (some i)
  | _ => none
def OR (K : PySem.W.Frag) (to : TO) (t : DOF) : Prop := ∀ g b, t g = some b → ∀ H0 Oc pins ow σ H, Reps K H0 Oc pins ow σ H g → ∀ Q : Option Int → Hp → Prop, (∀ H', Ex H H' → Q b H') → to σ H Q
theorem or_none : OR K tNoPart oNone := fun g d h H0 Oc pins ow σ H R Q q => by cases h; exact q H (Evl.Ex.refl H)
theorem or_some {te : TE} {a : DF} (ha : ER K te a) : OR K (tPart te) (oSome a) := fun g d h H0 Oc pins ow σ H R Q q => by
  unfold oSome at h
  cases ea : a g with
  | none => rw [ea] at h; cases h
  | some x =>
    rw [ea] at h
    simp only [Option.bind_some] at h
    split at h
    · cases h
      exact ha g _ ea H0 Oc pins ow σ H R _ fun v H1 e1 r1 => by
        cases r1
        exact ⟨_, rfl, q H1 e1⟩
    · cases h
def cutL {α : Type} (xs : List α) (lo hi : Option Int) : List α := (xs.drop (HT.sIx xs.length 0 lo)).take (HT.sIx xs.length xs.length hi - HT.sIx xs.length 0 lo)
theorem RpA.cut {O : Addr → Prop} {H : Hp} {vs : List V} {ds : List D} (r : RpA K O H vs ds) (lo hi : Option Int) : RpA K O H (cutV vs lo hi) (cutL ds lo hi) := by
  unfold cutV cutL
  rw [r.len]
  exact (r.drop _).take _
def slD : D → Option Int → Option Int → Option D
  | .lst ds, lo, hi => some (.lst (cutL ds lo hi))
  | _, _, _ => none
def dSl (a : DF) (lo hi : DOF) : DF := fun g => (a g).bind fun x => (lo g).bind fun l => (hi g).bind fun h => slD x l h
theorem er_sl {te : TE} {tl th : TO} {a : DF} {lo hi : DOF} (ha : ER K te a) (hl : OR K tl lo) (hh : OR K th hi) : ER K (tSl (rSlL K) te tl th) (dSl a lo hi) := fun g d h H0 Oc pins ow σ H R Q q => by
  unfold dSl at h
  cases ea : a g with
  | none => rw [ea] at h; cases h
  | some x =>
    rw [ea] at h
    cases el : lo g with
    | none => simp [el] at h
    | some l =>
      simp only [Option.bind_some, el] at h
      cases eh : hi g with
      | none => simp [eh] at h
      | some u =>
        simp only [Option.bind_some, eh] at h
        refine ha g x ea H0 Oc pins ow σ H R _ fun v H1 e1 r1 => ?_
        refine hl g l el H0 Oc pins ow σ H1 (R.grow e1) _ fun H2 e2 => ?_
        refine hh g u eh H0 Oc pins ow σ H2 ((R.grow e1).grow e2) _ fun H3 e3 => ?_
        unfold slD at h
        split at h
        · cases h
          have r3 := (r1.ex e2).ex e3
          cases r3 with
          | lst n e r =>
            exact ⟨_, _, rfl, .of e, rr_newL (((R.grow e1).grow e2).grow e3).oo (fun w H' e' r' => q w H' (((e1.trans e2).trans e3).trans e') r') (r.cut l u)⟩
        · cases h
/-! ### calls -/
def lenD : List D → Option D
  | [.lst ds] => some (.int ds.length)
  | [.tup ds] => some (.int ds.length)
  | [.scr ns] => some (.int ns.length)
  | [.str s] => if s.length ≤ 100000 then some (.int s.length) else none
  | _ => none
theorem rc_len : RC K (rLenA K) lenD := fun xs d h O H vs o r Q q => by
  unfold lenD at h
  split at h
  · cases h
    cases r with
    | cons r rr =>
      cases rr
      cases r with
      | lst n e r => exact .inl ⟨_, _, rfl, .inl (.of e), by rw [r.len]; exact rr_fin q (.int _)⟩
  · cases h
    cases r with
    | cons r rr =>
      cases rr
      cases r with
      | tup n e r => exact .inl ⟨_, _, rfl, .inr (.of e), by rw [r.len]; exact rr_fin q (.int _)⟩
  · cases h
    cases r with
    | cons r rr =>
      cases rr
      cases r with
      | scr n e => exact .inl ⟨_, _, rfl, .inl (.inl e), by rw [List.length_map]; exact rr_fin q (.int _)⟩
      | kscr e => exact .inl ⟨_, _, rfl, .inl (e H), by rw [List.length_map]; exact rr_fin q (.int _)⟩
  · split at h
    · rename_i hl
      cases h
      cases r with
      | cons r rr =>
        cases rr
        cases r
        exact .inr ⟨_, rfl, Evl.sz_of hl, rr_fin q (.int _)⟩
    · cases h
  · cases h
def rAbs : List V → Hp → VK → Prop := fun xs H Q => ∃ i, xs = [.int i] ∧ Q (.int (if i < 0 then -i else i)) H
def absD : List D → Option D
  | [.int i] => some (.int (if i < 0 then -i else i))
  | _ => none
theorem rc_abs : RC K rAbs absD := fun xs d h O H vs o r Q q => by
  unfold absD at h
  split at h
  · cases h
    cases r with
    | cons r rr => cases rr; cases r; exact ⟨_, rfl, rr_fin q (.int _)⟩
  · cases h
def rInt1 : List V → Hp → VK → Prop := fun xs H Q => (∃ i, xs = [.int i] ∧ Q (.int i) H) ∨ ∃ k, xs = [.bl k] ∧ Q (.int (if k then 1 else 0)) H
def intD : List D → Option D
  | [.int i] => some (.int i)
  | [.bl k] => some (.int (if k = true then 1 else 0))
  | _ => none
theorem rc_int : RC K rInt1 intD := fun xs d h O H vs o r Q q => by
  unfold intD at h
  split at h
  · cases h
    cases r with
    | cons r rr => cases rr; cases r; exact .inl ⟨_, rfl, rr_fin q (.int _)⟩
  · cases h
    cases r with
    | cons r rr => cases rr; cases r; exact .inr ⟨_, rfl, rr_fin q (.int _)⟩
  · cases h
def listD : List D → Option D
  | [.lst ds] => some (.lst ds)
  | [.tup ds] => some (.lst ds)
  | _ => none
def rTupleOf (K : PySem.W.Frag) : List V → Hp → VK → Prop := fun xs H Q => ∃ p ys, xs = [.ref p] ∧ ((SqL K H p ys ∧ ∀ l, H l = none → Q (.ref l) (upd H l (.tup ys))) ∨ (SqT K H p ys ∧ Q (.ref p) H))
def tupleD : List D → Option D
  | [.lst ds] => some (.tup ds)
  | [.tup ds] => some (.tup ds)
  | _ => none
theorem rc_tuple : RC K (rTupleOf K) tupleD := fun xs d h O H vs o r Q q => by
  unfold tupleD at h
  split at h
  · cases h
    cases r with
    | cons r rr =>
      cases rr
      cases r with
      | lst n e r => exact ⟨_, _, rfl, .inl ⟨.of e, rr_newT o q r⟩⟩
  · cases h
    cases r with
    | cons r rr =>
      cases rr
      cases r with
      | tup n e r => exact ⟨_, _, rfl, .inr ⟨.of e, rr_fin q (.tup n e r)⟩⟩
  · cases h
def asInts : List D → Option (List Int)
  | [] => some []
  | .int i :: ds => (asInts ds).map (i :: ·)
  | _ => none
theorem asInts_iL : ∀ {ds : List D} {ns : List Int}, asInts ds = some ns → ds = iL ns
  | [], ns, h => by cases h; rfl
  | .int i :: ds, ns, h => by
    unfold asInts at h
    cases e : asInts ds with
    | none => rw [e] at h; cases h
    | some ms =>
      rw [e] at h
      cases h
      show D.int i :: ds = D.int i :: iL ms
      rw [asInts_iL e]
  | .non :: _, _, h => by cases h
  | .bl _ :: _, _, h => by cases h
  | .str _ :: _, _, h => by cases h
  | .lst _ :: _, _, h => by cases h
  | .tup _ :: _, _, h => by cases h
  | .scr _ :: _, _, h => by cases h
  | .ins _ _ :: _, _, h => by cases h
  | .dct _ :: _, _, h => by cases h
  | .dck _ :: _, _, h => by cases h
  | .sti _ _ :: _, _, h => by cases h
  | .exn _ _ _ _ :: _, _, h => by cases h
  | .adr _ _ :: _, _, h => by cases h
  | .ty _ :: _, _, h => by cases h
  | .cls _ :: _, _, h => by cases h
def asBls : List D → Option (List Bool)
  | [] => some []
  | .bl i :: ds => (asBls ds).map (i :: ·)
  | _ => none
theorem asBls_vs {O : Addr → Prop} {H : Hp} : ∀ {ds : List D} {vs : List V} {ns : List Bool}, RpA K O H vs ds → asBls ds = some ns → vs = ns.map V.bl
  | [], _, ns, .nil, h => by cases h; rfl
  | d :: ds, _, ns, .cons r rr, h => by
    cases r <;> first | (cases h; done) | skip
    unfold asBls at h
    cases e : asBls ds with
    | none => rw [e] at h; cases h
    | some ms =>
      rw [e] at h
      cases h
      rw [List.map_cons, asBls_vs rr e]
def minD : List D → Option D
  | [.lst ds] => (asInts ds).bind fun ns => ns.min?.map .int
  | [.tup ds] => (asInts ds).bind fun ns => ns.min?.map .int
  | [.int i, .int j] => some (.int (if j < i then j else i))
  | _ => none
theorem min_pick {ns : List Int} {m : Int} (em : ns.min? = some m) : 0 < ns.length ∧ ∀ k, k ∈ ns → (∀ y, y ∈ ns → k ≤ y) → k = m := by
  have hm := List.min?_eq_some_iff.mp em
  refine ⟨?_, fun k hk hle => Int.le_antisymm (hle m hm.1) (hm.2 k hk)⟩
  cases ns with
  | nil => cases em
  | cons a b => exact Nat.succ_pos _
theorem rc_min : RC K (rMinA K) minD := fun xs d h O H vs o r Q q => by
  unfold minD at h
  split at h
  · rename_i ds
    cases e : asInts ds with
    | none => rw [e] at h; cases h
    | some ns =>
      rw [e] at h
      simp only [Option.bind_some] at h
      cases em : ns.min? with
      | none => rw [em] at h; cases h
      | some m =>
        rw [em] at h
        cases h
        obtain rfl := asInts_iL e
        cases r with
        | cons r rr =>
          cases rr
          cases r with
          | lst n e r =>
            rw [r.toInts] at e
            refine .inl (.inl ⟨_, ns, rfl, .of e, (min_pick em).1, fun k hk hle => ?_⟩)
            rw [(min_pick em).2 k hk hle]
            exact rr_fin q (.int m)
  · rename_i ds
    cases e : asInts ds with
    | none => rw [e] at h; cases h
    | some ns =>
      rw [e] at h
      simp only [Option.bind_some] at h
      cases em : ns.min? with
      | none => rw [em] at h; cases h
      | some m =>
        rw [em] at h
        cases h
        obtain rfl := asInts_iL e
        cases r with
        | cons r rr =>
          cases rr
          cases r with
          | tup n e r =>
            rw [r.toInts] at e
            refine .inr ⟨_, ns, rfl, .of e, (min_pick em).1, fun k hk hle => ?_⟩
            rw [(min_pick em).2 k hk hle]
            exact rr_fin q (.int m)
  · cases h
    cases r with
    | cons r rr =>
      cases rr with
      | cons r' rr =>
        cases rr; cases r; cases r'
        exact .inl (.inr ⟨_, _, rfl, rr_fin q (.int _)⟩)
  · cases h
def maxD : List D → Option D
  | [.lst ds] => (asInts ds).bind fun ns => ns.max?.map .int
  | [.int i, .int j] => some (.int (if j > i then j else i))
  | _ => none
def allD : List D → Option D
  | [.lst ds] => (asBls ds).map fun bs => .bl (bs.all id)
  | _ => none
theorem rc_all : RC K (rAll K) allD := fun xs d h O H vs o r Q q => by
  unfold allD at h
  split at h
  · rename_i ds
    cases e : asBls ds with
    | none => rw [e] at h; cases h
    | some ns =>
      rw [e] at h
      cases h
      cases r with
      | cons r rr =>
        cases rr
        cases r with
        | lst n e' r =>
          rw [asBls_vs r e] at e'
          exact ⟨_, ns, rfl, .of e', rr_fin q (.bl _)⟩
  · cases h
/-- sorted ints -/
def srt (ns : List Int) : List Int := ns.mergeSort (fun a b => decide (a ≤ b))
theorem perm_sorted : ∀ {xs ys : List Int}, xs.Perm ys → xs.Pairwise (· ≤ ·) → ys.Pairwise (· ≤ ·) → xs = ys
  | [], ys, p, _, _ => (List.nil_perm.mp p).symm ▸ rfl
  | x :: xs, [], p, _, _ => absurd (List.perm_nil.mp p) (by simp)
  | x :: xs, y :: ys, p, h1, h2 => by
    have hx : x ∈ y :: ys := p.mem_iff.mp List.mem_cons_self
    have hy : y ∈ x :: xs := p.mem_iff.mpr List.mem_cons_self
    have h1' := List.pairwise_cons.mp h1
    have h2' := List.pairwise_cons.mp h2
    have le1 : y ≤ x := by
      rcases List.mem_cons.mp hx with e | e
      · omega
      · exact h2'.1 x e
    have le2 : x ≤ y := by
      rcases List.mem_cons.mp hy with e | e
      · omega
      · exact h1'.1 y e
    have e : x = y := Int.le_antisymm le2 le1
    subst e
    rw [perm_sorted (List.perm_cons x |>.mp p) h1'.2 h2'.2]
theorem srt_perm (ns : List Int) : (srt ns).Perm ns := List.mergeSort_perm _ _
/-! ### sum of a list of ints -/
/-! ### isinstance of a built-in type -/
def tyN : D → Option String
  | .non => some "NoneType"
  | .bl _ => some "bool"
  | .int _ => some "int"
  | .str _ => some "str"
  | .lst _ => some "list"
  | .tup _ => some "tuple"
  | _ => none
theorem ty_rp {O : Addr → Prop} {H : Hp} {v : V} {d : D} {n : String} (r : Rp K O H v d) (h : tyN d = some n) : TyX K H v (.type n) := by
  cases r with
  | non => cases h; exact .base .non
  | bl b => cases h; exact .base (.bl b)
  | int b => cases h; exact .base (.int b)
  | str b => cases h; exact .base (.str b)
  | lst m e r => cases h; exact .base (.lst e)
  | tup m e r => cases h; exact .base (.tup e)
  | dct m e x r => cases h
  | dck m e x r => cases h
  | sti m e => cases h
  | exn m e r => cases h
  | adr r => cases h
  | scr m e => cases h
  | kscr e => cases h
  | ins m e r => cases h
  | ty n => cases h
  | cls C => cases h
def isiD : List D → Option D
  | [x, .ty T] => (tyN x).bind fun n => (kitB n T).map .bl
  | _ => none
theorem rc_isi : RC K (rIsi K) isiD := fun xs d h O H vs o r Q q => by
  unfold isiD at h
  split at h
  · rename_i x T
    cases e : tyN x with
    | none => rw [e] at h; cases h
    | some n =>
      rw [e] at h
      simp only [Option.bind_some] at h
      cases ek : kitB n T with
      | none => rw [ek] at h; cases h
      | some b =>
        rw [ek] at h
        cases h
        cases r with
        | cons r rr =>
          cases rr with
          | cons r' rr =>
            cases rr; cases r'
            exact ⟨_, _, _, _, b, rfl, .ty T, ty_rp r e, kit_ty ek, rr_fin q (.bl b)⟩
  · cases h
/-- list(reversed(xs)) -/
def revD : D → Option D
  | .lst ds => some (.lst ds.reverse)
  | _ => none
end
end Zk
end

section
set_option Elab.async false
set_option linter.all false
set_option maxRecDepth 100000
set_option autoImplicit false
set_option maxHeartbeats 2000000
/-! What is walked; comprehensions; calls; statements. -/
namespace Zk
open PySem L2 PyProof.Rows
open Evl (Ex)

section
variable {K : PySem.W.Frag} {H0 H H' H1 : Hp} {Oc : Addr → Prop} {pins : Pn} {ow : OW} {σ : L2.St} {g : Gm}

/-! ### slots and owned things change -/
theorem Reps.lt (R : Reps K H0 Oc pins ow σ H g) {i : Nat} (hi : i < g.length) : i < σ.length := by rw [R.len]; exact hi
def dropW (ow : OW) (i : Nat) : OW := fun j => if j = i then none else ow j
theorem dropW_of {ow : OW} {i j : Nat} {a : Addr} (h : dropW ow i j = some a) : j ≠ i ∧ ow j = some a := by
  unfold dropW at h
  split at h
  · cases h
  · rename_i n; exact ⟨n, h⟩
theorem dropW_ne {ow : OW} {i j : Nat} (h : j ≠ i) : dropW ow i j = ow j := by
  unfold dropW
  rw [if_neg h]
def ownAt (g : Gm) (i : Nat) : Bool := match g[i]? with
  | some (some (.o _)) => true
  | _ => false
/-- slot i may be stored to: it is there, and it is not the object that a def is making -/
def okSlot (g : Gm) (i : Nat) : Bool := decide (i < g.length) && (i != 0 || !ownAt g 0)
theorem okSlot_lt {g : Gm} {i : Nat} (h : okSlot g i = true) : i < g.length := by
  unfold okSlot at h
  rw [Bool.and_eq_true] at h
  exact of_decide_eq_true h.1
theorem okSlot_me {g : Gm} {i : Nat} (h : okSlot g i = true) (R : Reps K H0 Oc pins ow σ H g) {x : Addr} (e : pins.me = some x) : 0 ≠ i := fun z => by
  unfold okSlot at h
  rw [Bool.and_eq_true] at h
  obtain ⟨d, hd⟩ := R.is 0 x (R.slf x e)
  have o : ownAt g 0 = true := by unfold ownAt; rw [hd]
  rw [o, ← z] at h
  exact absurd h.2 (by decide)
/-- slot i is given a known value -/
theorem Reps.setV (R : Reps K H0 Oc pins ow σ H g) {i : Nat} {v : V} {d : D} (hi : okSlot g i = true) (r : Rp K (OO Oc ow) H v d) : Reps K H0 Oc pins (dropW ow i) (σ.set i (some v)) H (g.set i (some (.v d))) where
  len := by rw [List.length_set, List.length_set]; exact R.len
  ex := R.ex
  oc := R.oc
  fr := fun j a h => R.fr j a (dropW_of h).2
  inj := fun j l a h h' => R.inj j l a (dropW_of h).2 (dropW_of h').2
  is := fun j a h => by
    obtain ⟨n, h⟩ := dropW_of h
    rw [List.getElem?_set_ne (Ne.symm n)]
    exact R.is j a h
  val := fun j d' h => by
    have k := R.kpDrop (ow' := dropW ow i) (fun j a z => (dropW_of z).2)
    by_cases n : j = i
    · subst n
      rw [List.getElem?_set_self (okSlot_lt hi)] at h
      cases h
      exact ⟨v, List.getElem?_set_self (R.lt (okSlot_lt hi)), r.kp k⟩
    · rw [List.getElem?_set_ne (Ne.symm n)] at h ⊢
      obtain ⟨w, h1, h2⟩ := R.val j d' h
      exact ⟨w, h1, h2.kp k⟩
  own := fun j d' h => by
    have k := R.kpDrop (ow' := dropW ow i) (fun j a z => (dropW_of z).2)
    by_cases n : j = i
    · subst n
      rw [List.getElem?_set_self (okSlot_lt hi)] at h
      cases h
    · rw [List.getElem?_set_ne (Ne.symm n)] at h ⊢
      obtain ⟨a, h1, h2, h3⟩ := R.own j d' h
      exact ⟨a, (dropW_ne n).trans h1, h2, h3.kp k rfl⟩
  pin := fun p h => (R.pin p h).kp (R.kpDrop (fun j a z => (dropW_of z).2))
  slf := fun x e => (dropW_ne (okSlot_me hi R e)).trans (R.slf x e)
/-- slot i is given a new thing of its own -/
def putW (ow : OW) (i : Nat) (p : Addr) : OW := fun j => if j = i then some p else ow j
theorem putW_of {ow : OW} {i j : Nat} {p a : Addr} (h : putW ow i p j = some a) : (j = i ∧ a = p) ∨ (j ≠ i ∧ ow j = some a) := by
  unfold putW at h
  split at h
  · rename_i n; cases h; exact .inl ⟨n, rfl⟩
  · rename_i n; exact .inr ⟨n, h⟩
theorem Reps.fresh0 (R : Reps K H0 Oc pins ow σ H g) {p : Addr} (h : H p = none) : H0 p = none := Evl.fresh_back R.ex h
theorem Reps.setO (R : Reps K H0 Oc pins ow σ H g) {i : Nat} {p : Addr} {d : D} (hi0 : okSlot g i = true) (hp : H p = none) (e : Ex H H') (r : RpO K (fun a => OO Oc ow a ∨ a = p) H' p d) :
    Reps K H0 Oc pins (putW ow i p) (σ.set i (some (.ref p))) H' (g.set i (some (.o d))) := by
  have hi := okSlot_lt hi0
  have np : ∀ j a, ow j = some a → a ≠ p := fun j a h z => by rw [z] at h; exact (R.fr j p h).2.1 hp
  have k : Kp (OO Oc ow) H (OO Oc (putW ow i p)) H' := fun a o n h => by
    refine ⟨fun z => ?_, e a o h⟩
    rcases z with z | ⟨j, z⟩
    · exact n (.inl z)
    · rcases putW_of z with ⟨_, z⟩ | ⟨_, z⟩
      · rw [z, hp] at h; cases h
      · exact n (.inr ⟨j, z⟩)
  have k2 : Kp (fun a => OO Oc ow a ∨ a = p) H' (OO Oc (putW ow i p)) H' := fun a o n h => by
    refine ⟨fun z => ?_, h⟩
    rcases z with z | ⟨j, z⟩
    · exact n (.inl (.inl z))
    · rcases putW_of z with ⟨_, z⟩ | ⟨_, z⟩
      · exact n (.inr z)
      · exact n (.inl (.inr ⟨j, z⟩))
  exact {
    len := by rw [List.length_set, List.length_set]; exact R.len
    ex := R.ex.trans e
    oc := R.oc
    fr := fun j a h => by
      rcases putW_of h with ⟨_, z⟩ | ⟨_, z⟩
      · rw [z]; exact ⟨R.fresh0 hp, r.lv⟩
      · exact ⟨(R.fr j a z).1, (R.fr j a z).2.ex e⟩
    inj := fun j l a h h' => by
      rcases putW_of h with ⟨z, y⟩ | ⟨_, z⟩
      · rcases putW_of h' with ⟨z', _⟩ | ⟨_, z'⟩
        · rw [z, z']
        · exact absurd y (np l a z')
      · rcases putW_of h' with ⟨_, y⟩ | ⟨_, z'⟩
        · exact absurd y (np j a z)
        · exact R.inj j l a z z'
    is := fun j a h => by
      rcases putW_of h with ⟨z, _⟩ | ⟨n, z⟩
      · rw [z, List.getElem?_set_self hi]; exact ⟨d, rfl⟩
      · rw [List.getElem?_set_ne (Ne.symm n)]; exact R.is j a z
    val := fun j d' h => by
      by_cases n : j = i
      · subst n
        rw [List.getElem?_set_self hi] at h
        cases h
      · rw [List.getElem?_set_ne (Ne.symm n)] at h ⊢
        obtain ⟨w, h1, h2⟩ := R.val j d' h
        exact ⟨w, h1, h2.kp k⟩
    own := fun j d' h => by
      by_cases n : j = i
      · subst n
        rw [List.getElem?_set_self hi] at h
        cases h
        exact ⟨p, by unfold putW; rw [if_pos rfl], List.getElem?_set_self (R.lt hi), r.kp k2 rfl⟩
      · rw [List.getElem?_set_ne (Ne.symm n)] at h ⊢
        obtain ⟨a, h1, h2, h3⟩ := R.own j d' h
        refine ⟨a, by unfold putW; rw [if_neg n]; exact h1, h2, h3.kp k ?_⟩
        cases y : H a with
        | none => exact absurd y h3.there
        | some o => exact e a o y
    pin := fun q h => (R.pin q h).kp k
    slf := fun x h => by unfold putW; rw [if_neg (okSlot_me hi0 R h)]; exact R.slf x h }
/-- the thing of slot i is changed -/
theorem Reps.upd (R : Reps K H0 Oc pins ow σ H g) {i : Nat} {a : Addr} {d d' : D} {o : HO} (hg : g[i]? = some (some (Wd.o d))) (ha : ow i = some a) (r : RpO K (OO Oc ow) (upd H a o) a d') :
    Reps K H0 Oc pins ow σ (L2.upd H a o) (g.set i (some (.o d'))) := by
  have hi : i < g.length := (List.getElem?_eq_some_iff.mp hg).1
  have k : Kp (OO Oc ow) H (OO Oc ow) (L2.upd H a o) := fun b u n h => ⟨n, by rw [upd_ne (fun z => n (.inr ⟨i, by rw [z]; exact ha⟩))]; exact h⟩
  exact {
    len := by rw [List.length_set]; exact R.len
    ex := Evl.Ex.mut R.ex (R.fr i a ha).1
    oc := R.oc
    fr := fun j b h => ⟨(R.fr j b h).1, by
      by_cases z : b = a
      · rw [z]; exact r.lv
      · unfold Lv; rw [upd_ne z]; exact (R.fr j b h).2⟩
    inj := R.inj
    is := fun j b h => by
      by_cases n : j = i
      · subst n
        rw [List.getElem?_set_self hi]; exact ⟨d', rfl⟩
      · rw [List.getElem?_set_ne (Ne.symm n)]; exact R.is j b h
    val := fun j e h => by
      by_cases n : j = i
      · subst n
        rw [List.getElem?_set_self hi] at h; cases h
      · rw [List.getElem?_set_ne (Ne.symm n)] at h
        obtain ⟨w, h1, h2⟩ := R.val j e h
        exact ⟨w, h1, h2.kp k⟩
    own := fun j e h => by
      by_cases n : j = i
      · subst n
        rw [List.getElem?_set_self hi] at h
        cases h
        obtain ⟨b, h1, h2, _⟩ := R.own j d hg
        rw [ha] at h1
        cases h1
        exact ⟨a, ha, h2, r⟩
      · rw [List.getElem?_set_ne (Ne.symm n)] at h
        obtain ⟨b, h1, h2, h3⟩ := R.own j e h
        exact ⟨b, h1, h2, h3.kp k (upd_ne (fun z => n (R.inj j i b h1 (by rw [z]; exact ha))))⟩
    pin := fun p h => (R.pin p h).kp k
    slf := R.slf }
def Pn.more (pins : Pn) (ps : List (V × D)) : Pn := ⟨ps ++ pins.ps, pins.me⟩
theorem Reps.morePins (R : Reps K H0 Oc pins ow σ H g) {ps : List (V × D)} (h : ∀ p ∈ ps, Rp K (OO Oc ow) H p.1 p.2) : Reps K H0 Oc (pins.more ps) ow σ H g :=
  ⟨R.len, R.ex, R.oc, R.fr, R.inj, R.is, R.val, R.own, fun p hp => (List.mem_append.mp hp).elim (h p) (R.pin p), R.slf⟩
theorem Reps.lessPins {ps : List (V × D)} (R : Reps K H0 Oc (pins.more ps) ow σ H g) : Reps K H0 Oc pins ow σ H g :=
  ⟨R.len, R.ex, R.oc, R.fr, R.inj, R.is, R.val, R.own, fun p hp => R.pin p (List.mem_append_right _ hp), R.slf⟩
end

/-! ### what a loop walks -/
abbrev DIF : Type := Gm → Option (List D)
structure WkP (K : PySem.W.Frag) (J : It) (ds : List D) (ps : List (V × D)) (Φ : Hp → Prop) : Prop where
  go : ∀ (O : Addr → Prop) (i : Nat) (H : Hp), i < ds.length → (∀ p ∈ ps, Rp K O H p.1 p.2) → Φ H → J.go i H
  yld : ∀ (O : Addr → Prop) (i : Nat) (H : Hp) (v : V) (H' : Hp) (d : D), (∀ a, O a → Lv H a) → (∀ p ∈ ps, Rp K O H p.1 p.2) → J.yld i H v H' → ds[i]? = some d → Ex H H' ∧ Rp K O H' v d
  stop : ∀ (O : Addr → Prop) (H : Hp), (∀ p ∈ ps, Rp K O H p.1 p.2) → Φ H → J.stop ds.length H
/-- .. that needs nothing but what is known -/
abbrev Wk (K : PySem.W.Frag) (J : It) (ds : List D) (ps : List (V × D)) : Prop := WkP K J ds ps fun _ => True
def IR (K : PySem.W.Frag) (wi : TI) (it : DIF) : Prop := ∀ g ds, it g = some ds → ∀ H0 Oc pins ow σ H, Reps K H0 Oc pins ow σ H g → ∀ R : It → Hp → Prop,
  (∀ J H' ps, Ex H H' → (∀ p ∈ ps, Rp K (OO Oc ow) H' p.1 p.2) → Wk K J ds ps → R J H') → wi σ H R
def itemsD : D → Option (List D)
  | .lst ds => some ds
  | .tup ds => some ds
  | .scr ns => some (iL ns)
  | _ => none
def iSeq (K : PySem.W.Frag) (te : TE) : TI := fun σ H R => iList K te σ H R ∨ iTup K te σ H R
theorem pi_or {X : Cx} {tg e : Expr} {w1 w2 : TI} (h1 : PI X tg e w1) (h2 : PI X tg e w2) : PI X tg e (fun σ H R => w1 σ H R ∨ w2 σ H R) := ⟨fun pins s σ H R I h => h.elim (h1.run pins s σ H R I) (h2.run pins s σ H R I)⟩
theorem pi_seq {X : Cx} {tg e : Expr} {te : TE} (h : PE X e te) : PI X tg e (iSeq X.K te) := pi_or (pi_list h) (pi_tup h)
def dItems (a : DF) : DIF := fun g => (a g).bind itemsD
section
variable {K : PySem.W.Frag}
theorem wk_list {a : Addr} {ds : List D} {v : V} {d : D} (hv : v = .ref a) (hd : itemsD d = some ds) (hl : ∀ (O : Addr → Prop) (H : Hp), Rp K O H v d → ∃ xs, SqL K H a xs ∧ RpA K O H xs ds) : Wk K (Itl K a) ds [(v, d)] where
  go := fun O i H hi h _ => by
    obtain ⟨xs, h1, h2⟩ := hl O H (h _ List.mem_cons_self)
    have : i < xs.length := by rw [h2.len]; exact hi
    exact ⟨xs, xs[i], h1, List.getElem?_eq_getElem this⟩
  yld := fun O i H w H' e o h y he => by
    obtain ⟨xs, h1, h2⟩ := hl O H (h _ List.mem_cons_self)
    obtain ⟨rfl, y⟩ := y
    obtain ⟨u, e1, e2⟩ := h2.get he
    have e3 := y xs h1
    rw [e1] at e3
    cases e3
    exact ⟨Evl.Ex.refl _, e2⟩
  stop := fun O H h _ => by
    obtain ⟨xs, h1, h2⟩ := hl O H (h _ List.mem_cons_self)
    exact ⟨xs, h1, by rw [h2.len]; exact Nat.le_refl _⟩
theorem wk_tup {a : Addr} {ds : List D} {v : V} {d : D} (hv : v = .ref a) (hd : itemsD d = some ds) (hl : ∀ (O : Addr → Prop) (H : Hp), Rp K O H v d → ∃ xs, SqT K H a xs ∧ RpA K O H xs ds) : Wk K (Itt K a) ds [(v, d)] where
  go := fun O i H hi h _ => by
    obtain ⟨xs, h1, h2⟩ := hl O H (h _ List.mem_cons_self)
    have : i < xs.length := by rw [h2.len]; exact hi
    exact ⟨xs, xs[i], h1, List.getElem?_eq_getElem this⟩
  yld := fun O i H w H' e o h y he => by
    obtain ⟨xs, h1, h2⟩ := hl O H (h _ List.mem_cons_self)
    obtain ⟨rfl, y⟩ := y
    obtain ⟨u, e1, e2⟩ := h2.get he
    have e3 := y xs h1
    rw [e1] at e3
    cases e3
    exact ⟨Evl.Ex.refl _, e2⟩
  stop := fun O H h _ => by
    obtain ⟨xs, h1, h2⟩ := hl O H (h _ List.mem_cons_self)
    exact ⟨xs, h1, by rw [h2.len]; exact Nat.le_refl _⟩
theorem ir_seq {te : TE} {a : DF} (ha : ER K te a) : IR K (iSeq K te) (dItems a) := fun g ds h H0 Oc pins ow σ H R Q q => by
  unfold dItems at h
  cases ea : a g with
  | none => rw [ea] at h; cases h
  | some x =>
    rw [ea] at h
    simp only [Option.bind_some] at h
    cases x <;> first | (cases h; done) | skip
    · cases h
      refine .inl (ha g _ ea H0 Oc pins ow σ H R _ fun v H1 e1 r1 => ?_)
      have r0 := r1
      cases r1 with
      | @lst a xs _ n e r => exact ⟨a, rfl, ⟨_, .of e⟩, q _ H1 _ e1 (fun p hp => by rw [List.mem_singleton.mp hp]; exact r0) (wk_list rfl rfl fun O H r => by cases r with | lst n e r => exact ⟨_, .of e, r⟩)⟩
    · cases h
      refine .inr (ha g _ ea H0 Oc pins ow σ H R _ fun v H1 e1 r1 => ?_)
      have r0 := r1
      have w : ∀ a, Wk K (Itt K a) ds [(.ref a, .tup ds)] := fun a => wk_tup rfl rfl fun O H r => by
        cases r with
        | tup n e r => exact ⟨_, .of e, r⟩
      cases r1 with
      | @tup a xs _ n e r => exact ⟨a, rfl, ⟨_, .of e⟩, q _ H1 _ e1 (fun p hp => by rw [List.mem_singleton.mp hp]; exact r0) (w a)⟩
    · rename_i ns
      cases h
      refine .inl (ha g _ ea H0 Oc pins ow σ H R _ fun v H1 e1 r1 => ?_)
      have r0 := r1
      have w : ∀ a, Wk K (Itl K a) (iL ns) [(.ref a, .scr ns)] := fun a => wk_list rfl rfl fun O H r => by
        cases r with
        | scr n e => exact ⟨_, .inl e, RpA.ofInts ns⟩
        | kscr e => exact ⟨_, e H, RpA.ofInts ns⟩
      cases r1 with
      | @scr a _ n e => exact ⟨a, rfl, ⟨_, .inl e⟩, q _ H1 _ e1 (fun p hp => by rw [List.mem_singleton.mp hp]; exact r0) (w a)⟩
      | @kscr a _ e => exact ⟨a, rfl, ⟨_, e H1⟩, q _ H1 _ e1 (fun p hp => by rw [List.mem_singleton.mp hp]; exact r0) (w a)⟩
/-- ranges -/
def rngL (lo : Int) (n : Nat) : List D := (List.range n).map fun i => .int (lo + (i : Nat))
theorem wk_rng (lo : Int) (n : Nat) : Wk K (Itr lo n) (rngL lo n) [] where
  go := fun O i H hi h _ => by unfold rngL at hi; rw [List.length_map, List.length_range] at hi; exact hi
  yld := fun O i H w H' e o h y he => by
    obtain ⟨rfl, rfl⟩ := y
    unfold rngL at he
    rw [List.getElem?_map] at he
    have hi : i < n := by
      cases z : (List.range n)[i]? with
      | none => rw [z] at he; cases he
      | some j => have := (List.getElem?_eq_some_iff.mp z).1; rw [List.length_range] at this; exact this
    rw [List.getElem?_range hi] at he
    cases he
    exact ⟨Evl.Ex.refl _, .int _⟩
  stop := fun O H h _ => by unfold rngL; rw [List.length_map, List.length_range]; exact Nat.le_refl _
def dRng1 (a : DAF) : DIF := fun g => (a g).bind fun xs => match xs with
  | [.int n] => if n ≤ 1000000 ∧ -1000000 ≤ n then some (rngL 0 n.toNat) else none
  | _ => none
def dRng2 (a : DAF) : DIF := fun g => (a g).bind fun xs => match xs with
  | [.int i, .int j] => if (i ≤ 1000000 ∧ -1000000 ≤ i) ∧ j ≤ 1000000 ∧ -1000000 ≤ j then some (rngL i (j - i).toNat) else none
  | _ => none
theorem ir_rng1 {ta : TA} {a : DAF} (ha : AR K ta a) : IR K (iRng1 ta) (dRng1 a) := fun g ds h H0 Oc pins ow σ H R Q q => by
  unfold dRng1 at h
  cases ea : a g with
  | none => rw [ea] at h; cases h
  | some x =>
    rw [ea] at h
    simp only [Option.bind_some] at h
    split at h
    · rename_i n
      split at h
      · rename_i hn
        cases h
        refine ha g _ ea H0 Oc pins ow σ H R _ fun vs H1 e1 r1 => ?_
        cases r1 with
        | cons r rr =>
          cases rr; cases r
          exact ⟨n, rfl, by omega, by omega, q _ H1 [] e1 (fun p hp => by cases hp) (wk_rng 0 _)⟩
      · cases h
    · cases h
/-- enumerate(a list) -/
def enumL : Nat → List D → List D
  | _, [] => []
  | n, d :: ds => .tup [.int (n : Int), d] :: enumL (n + 1) ds
def dEnum (a : DAF) : DIF := fun g => (a g).bind fun xs => match xs with
  | [.lst ds] => some (enumL 0 ds)
  | [.tup ds] => some (enumL 0 ds)
  | _ => none
end

/-! ### targets -/
abbrev DGF : Type := D → Gm → Option Gm
abbrev DGFs : Type := List D → Gm → Option Gm
def dName (i : Nat) : DGF := fun d g => if okSlot g i = true then some (g.set i (some (.v d))) else none
section
variable {K : PySem.W.Frag}
def dgNil : DGFs := fun ds g => match ds with
  | [] => some g
  | _ => none
def dgCons (f : DGF) (r : DGFs) : DGFs := fun ds g => match ds with
  | d :: ds => (f d g).bind fun g1 => r ds g1
  | [] => none
end
section
variable {K : PySem.W.Frag}
/-- targets drop what their slots owned, no more: said with the owners told -/
def GR' (K : PySem.W.Frag) (tg : TG) (f : DGF) : Prop := ∀ d g g', f d g = some g' → ∀ H0 Oc pins ow σ H v, Reps K H0 Oc pins ow σ H g → Rp K (OO Oc ow) H v d → ∀ Q : L2.St → Hp → Prop,
  (∀ ow' σ', (∀ i a, ow' i = some a → ow i = some a) → Reps K H0 Oc pins ow' σ' H g' → Q σ' H) → tg v σ H Q
def GRs' (K : PySem.W.Frag) (tg : TGs) (f : DGFs) : Prop := ∀ ds g g', f ds g = some g' → ∀ H0 Oc pins ow σ H vs, Reps K H0 Oc pins ow σ H g → RpA K (OO Oc ow) H vs ds → ∀ Q : L2.St → Hp → Prop,
  (∀ ow' σ', (∀ i a, ow' i = some a → ow i = some a) → Reps K H0 Oc pins ow' σ' H g' → Q σ' H) → tg vs σ H Q
theorem gr'_name (i : Nat) : GR' K (gName i) (dName i) := fun d g g' h H0 Oc pins ow σ H v R r Q q => by
  unfold dName at h
  split at h
  · rename_i hi
    cases h
    exact q _ _ (fun j a z => (dropW_of z).2) (R.setV hi r)
  · cases h
theorem grs'_nil : GRs' K gNil dgNil := fun ds g g' h H0 Oc pins ow σ H vs R r Q q => by
  unfold dgNil at h
  split at h
  · cases h; cases r
    exact ⟨rfl, q ow σ (fun _ _ z => z) R⟩
  · cases h
theorem grs'_cons {t : TG} {u : TGs} {f : DGF} {r : DGFs} (h1 : GR' K t f) (h2 : GRs' K u r) : GRs' K (gCons t u) (dgCons f r) := fun ds g g' h H0 Oc pins ow σ H vs R rr Q q => by
  unfold dgCons at h
  split at h
  · rename_i d ds
    cases e : f d g with
    | none => rw [e] at h; cases h
    | some g1 =>
      rw [e] at h
      simp only [Option.bind_some] at h
      cases rr with
      | cons a b =>
        refine ⟨_, _, rfl, h1 d g g1 e H0 Oc pins ow σ H _ R a _ fun ow1 σ1 k1 R1 => ?_⟩
        exact h2 ds g1 g' h H0 Oc pins ow1 σ1 H _ R1 (b.kp (R.kpDrop k1)) Q fun ow2 σ2 k2 R2 => q ow2 σ2 (fun i a z => k1 i a (k2 i a z)) R2
  · cases h
def dgTup (n : Nat) (r : DGFs) : DGF := fun d g => match d with
  | .tup ds => if ds.length = n then r ds g else none
  | _ => none
theorem gr'_tup {n : Nat} {u : TGs} {r : DGFs} (h2 : GRs' K u r) : GR' K (gTup K n u) (dgTup n r) := fun d g g' h H0 Oc pins ow σ H v R rr Q q => by
  unfold dgTup at h
  split at h
  · split at h
    · rename_i ds hn
      cases rr with
      | tup m e x => exact ⟨_, _, rfl, .of e, by rw [x.len]; exact hn, h2 ds g g' h H0 Oc pins ow σ H _ R x Q q⟩
    · cases h
  · cases h
end
end Zk
end

section
set_option Elab.async false
set_option linter.all false
set_option maxRecDepth 100000
set_option autoImplicit false
set_option maxHeartbeats 2000000
/-! Comprehensions; statements; loops; a def's promise. -/
namespace Zk
open PySem L2 PyProof.Rows
open Evl (Ex)

/-! ### what comes out of statements -/
inductive Out where
  | nx (g : Gm) | bk (g : Gm) | ct (g : Gm) | rt (w : Wd)
abbrev SF : Type := Gm → Option Out
def Post (K : PySem.W.Frag) (H0 : Hp) (Oc : Addr → Prop) (pins : Pn) (De : Ends) : Out → Prop
  | .nx g => ∀ ow σ H, Reps K H0 Oc pins ow σ H g → De.nx σ H
  | .bk g => ∀ ow σ H, Reps K H0 Oc pins ow σ H g → De.bk σ H
  | .ct g => ∀ ow σ H, Reps K H0 Oc pins ow σ H g → De.ct σ H
  | .rt (.v d) => ∀ v H, Ex H0 H → Rp K Oc H v d → De.rt v H
  | .rt (.o d) => ∀ p H, Ex H0 H → H0 p = none → RpO K (fun a => Oc a ∨ a = p) H p d → De.rt (.ref p) H
def SR (K : PySem.W.Frag) (ts : TS) (t : SF) : Prop := ∀ g out, t g = some out → ∀ H0 Oc pins ow σ H, Reps K H0 Oc pins ow σ H g → ∀ De : Ends, Post K H0 Oc pins De out → ts De σ H
/-- an expression that makes a thing of one's own -/
def EO (K : PySem.W.Frag) (te : TE) (t : DF) : Prop := ∀ g d, t g = some d → ∀ H0 Oc pins ow σ H, Reps K H0 Oc pins ow σ H g → ∀ Q : VK, (∀ p H', Ex H H' → H p = none → RpO K (fun a => OO Oc ow a ∨ a = p) H' p d → Q (.ref p) H') → te σ H Q

section
variable {K : PySem.W.Frag} {ta tb te : TE} {a b : DF} {ts tu : TS} {s u : SF} {tt : TT} {t : DTF}
theorem eo_lst {tr : TA} {s : DAF} (ha : AR K tr s) : EO K (tLst tr) (dN mkLst s) := fun g d h H0 Oc pins ow σ H R Q q => by
  unfold dN at h
  cases ea : s g with
  | none => rw [ea] at h; cases h
  | some x =>
    rw [ea] at h
    unfold mkLst at h
    simp only [Option.bind_some] at h
    split at h
    · rename_i hl
      cases h
      refine ha g x ea H0 Oc pins ow σ H R _ fun v H1 e1 r1 => ⟨by rw [r1.len]; exact Evl.sz_of hl, fun p hp => ?_⟩
      have e2 := Evl.Ex.new (o := .lst v) hp
      refine q _ _ (e1.trans e2) (Evl.fresh_back e1 hp) ⟨v, upd_same, r1.kp fun b o n e => ⟨fun z => ?_, e2 b o e⟩⟩
      rcases z with z | z
      · exact n z
      · rw [z, hp] at e; cases e
    · cases h
/-! ### comprehensions -/
/-- the comprehension's items -/
def lcL (tg : DGF) (tt : DTF) (te : DF) (g : Gm) : List D → Option (List D)
  | [] => some []
  | d :: ds => (tg d g).bind fun g1 => (tt g1).bind fun b => if b = true then (te g1).bind fun e => (lcL tg tt te g ds).map (e :: ·) else lcL tg tt te g ds
def free (g : Gm) (vs : List Nat) : Bool := vs.all fun v => !ownAt g v
def wipeG (g : Gm) : List Nat → Gm
  | [] => g
  | v :: vs => (wipeG g vs).set v none
def dLc (it : DIF) (tg : DGF) (tt : DTF) (te : DF) (vs : List Nat) : DF := fun g => if free g vs = true then (it g).bind fun ds => if ds.length ≤ 100000 then (lcL tg tt te (wipeG g vs) ds).map .lst else none else none
def dYes : DTF := fun _ => some true
theorem tr_yes : TR K tYes dYes := fun g b h H0 Oc pins ow σ H R Q q => by cases h; exact q H (Evl.Ex.refl H)
theorem wipe_get (σ : L2.St) : ∀ (vs : List Nat) (i : Nat), (L2.wipe σ vs)[i]? = if i ∈ vs then (if i < σ.length then some none else none) else σ[i]?
  | [], i => by simp [L2.wipe]
  | v :: vs, i => by
    show ((L2.wipe σ vs).set v none)[i]? = _
    rw [List.getElem?_set, L2.wipe_length, wipe_get σ vs i]
    by_cases h : v = i
    · subst h
      simp
    · rw [if_neg h]
      have : (i ∈ v :: vs) = (i ∈ vs) := by
        rw [List.mem_cons]
        exact propext ⟨fun q => q.resolve_left (fun z => h z.symm), .inr⟩
      simp only [this]
theorem wipe_set (σ τ : L2.St) (vs : List Nat) {j : Nat} {x : Option V} (hj : j ∈ vs) (h : L2.wipe τ vs = L2.wipe σ vs) : L2.wipe (τ.set j x) vs = L2.wipe σ vs := by
  rw [← h]
  apply List.ext_getElem?
  intro i
  rw [wipe_get, wipe_get]
  by_cases hi : i ∈ vs
  · rw [if_pos hi, if_pos hi, List.length_set]
  · rw [if_neg hi, if_neg hi, List.getElem?_set_ne (fun z => hi (by rw [← z]; exact hj))]
theorem wipe_wipe (σ : L2.St) (vs : List Nat) : L2.wipe (L2.wipe σ vs) vs = L2.wipe σ vs := by
  apply List.ext_getElem?
  intro i
  rw [wipe_get, wipe_get]
  by_cases hi : i ∈ vs
  · rw [if_pos hi, if_pos hi, L2.wipe_length]
  · rw [if_neg hi, if_neg hi]
theorem wipeG_length (g : Gm) : ∀ vs : List Nat, (wipeG g vs).length = g.length
  | [] => rfl
  | v :: vs => by unfold wipeG; rw [List.length_set, wipeG_length g vs]
theorem wipeG_get (g : Gm) : ∀ (vs : List Nat) (i : Nat), (wipeG g vs)[i]? = if i ∈ vs then (if i < g.length then some none else none) else g[i]?
  | [], i => by simp [wipeG]
  | v :: vs, i => by
    show ((wipeG g vs).set v none)[i]? = _
    rw [List.getElem?_set, wipeG_length, wipeG_get g vs i]
    by_cases h : v = i
    · subst h
      simp
    · rw [if_neg h]
      have : (i ∈ v :: vs) = (i ∈ vs) := by
        rw [List.mem_cons]
        exact propext ⟨fun q => q.resolve_left (fun z => h z.symm), .inr⟩
      simp only [this]
theorem free_at {g : Gm} {vs : List Nat} (h : free g vs = true) {v : Nat} (hv : v ∈ vs) (d : D) : g[v]? ≠ some (some (.o d)) := fun e => by
  have := List.all_eq_true.mp h v hv
  unfold ownAt at this
  rw [e] at this
  cases this
theorem wipeG_not {g : Gm} {vs : List Nat} {v : Nat} (hv : v ∈ vs) (d : Wd) : (wipeG g vs)[v]? ≠ some (some d) := fun e => by
  rw [wipeG_get, if_pos hv] at e
  split at e <;> cases e
theorem Reps.wipe {H0 H : Hp} {Oc : Addr → Prop} {pins : Pn} {ow : OW} {σ : L2.St} {g : Gm} (R : Reps K H0 Oc pins ow σ H g) {vs : List Nat} (hf : free g vs = true) : Reps K H0 Oc pins ow (L2.wipe σ vs) H (wipeG g vs) where
  len := by rw [L2.wipe_length, wipeG_length]; exact R.len
  ex := R.ex
  oc := R.oc
  fr := R.fr
  inj := R.inj
  is := fun i a h => by
    obtain ⟨d, e⟩ := R.is i a h
    have : i ∉ vs := fun z => free_at hf z d e
    rw [wipeG_get, if_neg this]
    exact ⟨d, e⟩
  val := fun i d h => by
    have : i ∉ vs := fun z => wipeG_not z _ h
    rw [wipeG_get, if_neg this] at h
    rw [wipe_get, if_neg this]
    exact R.val i d h
  own := fun i d h => by
    have : i ∉ vs := fun z => wipeG_not z _ h
    rw [wipeG_get, if_neg this] at h
    rw [wipe_get, if_neg this]
    exact R.own i d h
  pin := R.pin
  slf := R.slf
/-- a target that stores into the comprehension's own slots alone -/
def GRc (K : PySem.W.Frag) (tg : TG) (f : DGF) (vs : List Nat) : Prop := ∀ d g g', (∀ v ∈ vs, ∀ d', g[v]? ≠ some (some (Wd.o d'))) → f d g = some g' → ∀ H0 Oc pins ow σ H v, Reps K H0 Oc pins ow σ H g → Rp K (OO Oc ow) H v d → ∀ Q : L2.St → Hp → Prop,
  (∀ σ', Reps K H0 Oc pins ow σ' H g' → L2.wipe σ' vs = L2.wipe σ vs → (∀ v ∈ vs, ∀ d', g'[v]? ≠ some (some (Wd.o d'))) → Q σ' H) → tg v σ H Q
theorem dropW_id {H0 H : Hp} {Oc : Addr → Prop} {pins : Pn} {ow : OW} {σ : L2.St} {g : Gm} (R : Reps K H0 Oc pins ow σ H g) {j : Nat} (h : ∀ d', g[j]? ≠ some (some (Wd.o d'))) : dropW ow j = ow := by
  funext i
  unfold dropW
  split
  · rename_i e
    cases q : ow i with
    | none => rfl
    | some a =>
      obtain ⟨d, hd⟩ := R.is i a q
      rw [e] at hd
      exact absurd hd (h d)
  · rfl
theorem grc_name {j : Nat} {vs : List Nat} (hj : j ∈ vs) : GRc K (gName j) (dName j) vs := fun d g g' hn h H0 Oc pins ow σ H v R r Q q => by
  unfold dName at h
  split at h
  · rename_i hi
    cases h
    have R1 := R.setV hi r
    rw [dropW_id R (hn j hj)] at R1
    refine q _ R1 (wipe_set σ σ vs hj rfl) fun w hw d' z => ?_
    by_cases e : w = j
    · rw [e, List.getElem?_set_self (okSlot_lt hi)] at z; cases z
    · rw [List.getElem?_set_ne (Ne.symm e)] at z; exact hn w hw d' z
  · cases h
open Classical in
theorem Reps.rebase {H0 H H2 : Hp} {Oc : Addr → Prop} {pins : Pn} {ow : OW} {σ : L2.St} {g : Gm} {Dl : Addr} (R : Reps K H0 Oc pins ow σ H g) (hD : H Dl = none) (e : Ex H H2) (h2 : Lv H2 Dl) :
    ∃ B, Reps K B (fun a => Oc a ∨ a = Dl) pins ow σ H2 g := by
  have k : Kp (OO Oc ow) H (OO (fun a => Oc a ∨ a = Dl) ow) H2 := fun a o n h => ⟨fun z => by
    rcases z with (z | z) | z
    · exact n (.inl z)
    · rw [z, hD] at h; cases h
    · exact n (.inr z), e a o h⟩
  refine ⟨fun b => if ∃ i, ow i = some b then none else H2 b, ?_⟩
  exact {
    len := R.len
    ex := fun a o h => by
      have h : (if ∃ i, ow i = some a then none else H2 a) = some o := h
      split at h
      · cases h
      · exact h
    oc := fun a h => by
      have nw : ¬ ∃ i, ow i = some a := fun ⟨i, z⟩ => by
        rcases h with h | h
        · exact (R.oc a h).1 (R.fr i a z).1
        · rw [h] at z; exact (R.fr i Dl z).2.1 hD
      show (if ∃ i, ow i = some a then none else H2 a) ≠ none ∧ ∀ xs, (if ∃ i, ow i = some a then none else H2 a) ≠ some (.tup xs)
      rw [if_neg nw]
      rcases h with h | h
      · exact (R.oo a (.inl h)).ex e
      · rw [h]; exact h2
    fr := fun i a h => ⟨if_pos ⟨i, h⟩, (R.fr i a h).2.ex e⟩
    inj := R.inj
    is := R.is
    val := fun i d h => let ⟨v, h1, h2⟩ := R.val i d h; ⟨v, h1, h2.kp k⟩
    own := fun i d h => let ⟨a, h1, h2, h3⟩ := R.own i d h; ⟨a, h1, h2, h3.kp k (by
      cases y : H a with
      | none => exact absurd y h3.there
      | some o => exact e a o y)⟩
    pin := fun p h => (R.pin p h).kp k
    slf := R.slf }
/-- the comprehension, at the new list's place -/
theorem lc_go {J : It} {tg : TG} {f : DGF} {tte : TT} {ft : DTF} {tee : TE} {fe : DF} {vs : List Nat} {ds es : List D} {ps : List (V × D)} {H0 H1 : Hp} {Oc : Addr → Prop} {pins : Pn} {ow : OW} {σ : L2.St} {g : Gm} {Q : VK}
    {Φ : Hp → Prop} (hw : WkP K J ds ps Φ) (hg : GRc K tg f vs) (ht : TR K tte ft) (he : ER K tee fe) (R : Reps K H0 Oc pins ow σ H1 g) (hf : free g vs = true) (hps : ∀ p ∈ ps, Rp K (OO Oc ow) H1 p.1 p.2)
    (hz : ds.length ≤ 100000) (h : lcL f ft fe (wipeG g vs) ds = some es) (hΦ : ∀ H, Ex H1 H → Φ H) (hq : ∀ p H', H1 p = none → Ex H1 H' → RpO K (fun a => OO Oc ow a ∨ a = p) H' p (.lst es) → Q (.ref p) H') :
    ∀ Dl, H1 Dl = none → ∃ W : Nat → Nat → Hp → Prop, (∃ m, W 0 m (L2.upd H1 Dl (.lst []))) ∧ ∀ i m H, W i m H →
      (J.stop i H ∧ Q (.ref Dl) H) ∨ (J.go i H ∧ ∃ Nx : Hp → Prop, (∀ H', Nx H' → ∃ m', m' < m ∧ W (i + 1) m' H') ∧ ∀ x H', J.yld i H x H' → tg x (L2.wipe σ vs) H' fun σ2 H2 => L2.wipe σ2 vs = L2.wipe σ vs ∧ tte σ2 H2 fun b H3 =>
        if b = true then tee σ2 H3 fun y H4 => ∃ acc, H4 Dl = some (.lst acc) ∧ acc.length < sizeLine ∧ Nx (L2.upd H4 Dl (.lst (acc ++ [y]))) else Nx H3) := by
  intro Dl hD
  have oeq : ∀ a, OO (fun a => Oc a ∨ a = Dl) ow a ↔ (OO Oc ow a ∨ a = Dl) := fun a =>
    ⟨fun z => z.elim (fun z => z.elim (fun z => .inl (.inl z)) .inr) (fun z => .inl (.inr z)), fun z => z.elim (fun z => z.elim (fun z => .inl (.inl z)) (fun z => .inr z)) (fun z => .inl (.inr z))⟩
  -- what is held between turns: made so far
  let P : Nat → Hp → Prop := fun i H => ∃ acc done_ rest, Ex H1 H ∧ H Dl = some (.lst acc) ∧ RpA K (OO (fun a => Oc a ∨ a = Dl) ow) H acc done_ ∧ lcL f ft fe (wipeG g vs) (ds.drop i) = some rest ∧ es = done_ ++ rest ∧ done_.length ≤ i
  refine ⟨fun i m H => m = ds.length - i ∧ i ≤ ds.length ∧ P i H, ⟨ds.length, rfl, Nat.zero_le _, ⟨[], [], es, Evl.Ex.new hD, upd_same, .nil, h, rfl, Nat.le_refl _⟩⟩, ?_⟩
  rintro i m H ⟨rfl, hi, ⟨acc, dn, rest, e1, hl, ra, hr, hes, hln⟩⟩
  obtain ⟨B, RB⟩ := R.rebase hD e1 ⟨by rw [hl]; exact fun z => (by cases z), by rw [hl]; exact fun _ z => (by cases z)⟩
  have kps : ∀ p ∈ ps, Rp K (OO (fun a => Oc a ∨ a = Dl) ow) H p.1 p.2 := fun p hp => (hps p hp).kp fun a o n q => ⟨fun z => (by
    rcases (oeq a).mp z with z | z
    · exact n z
    · rw [z, hD] at q; cases q), e1 a o q⟩
  by_cases hlt : i < ds.length
  · refine .inr ⟨hw.go _ i H hlt kps (hΦ H e1), fun H' => P (i + 1) H', fun H' p => ⟨ds.length - (i + 1), by omega, rfl, hlt, p⟩, fun x H' y => ?_⟩
    have hd : ds[i]? = some ds[i] := List.getElem?_eq_getElem hlt
    obtain ⟨e2, rx⟩ := hw.yld _ i H x H' ds[i] RB.oo kps y hd
    have hdrop : ds.drop i = ds[i] :: ds.drop (i + 1) := by rw [List.drop_eq_getElem_cons hlt]
    rw [hdrop] at hr
    unfold lcL at hr
    cases e3 : f ds[i] (wipeG g vs) with
    | none => rw [e3] at hr; cases hr
    | some g1 =>
      rw [e3] at hr
      simp only [Option.bind_some] at hr
      cases e4 : ft g1 with
      | none => rw [e4] at hr; cases hr
      | some b =>
        rw [e4] at hr
        simp only [Option.bind_some] at hr
        have RW := ((RB.grow e2).wipe hf)
        refine hg ds[i] (wipeG g vs) g1 (fun v hv d' => wipeG_not hv _) e3 B _ pins ow _ H' x RW rx _ fun σ2 R2 w2 _ => ⟨w2.trans (wipe_wipe σ vs), ?_⟩
        refine ht g1 b e4 B _ pins ow σ2 H' R2 _ fun H3 e5 => ?_
        cases b with
        | true =>
          rw [if_pos rfl] at hr ⊢
          cases e6 : fe g1 with
          | none => rw [e6] at hr; cases hr
          | some e =>
            rw [e6] at hr
            simp only [Option.bind_some] at hr
            cases e7 : lcL f ft fe (wipeG g vs) (ds.drop (i + 1)) with
            | none => rw [e7] at hr; cases hr
            | some rest' =>
              rw [e7] at hr
              have hr2 : e :: rest' = rest := Option.some.inj hr
              refine he g1 e e6 B _ pins ow σ2 H3 (R2.grow e5) _ fun yv H4 e8 ry => ?_
              have hl4 : H4 Dl = some (.lst acc) := e8 _ _ (e5 _ _ (e2 _ _ hl))
              have k4 : Kp (OO (fun a => Oc a ∨ a = Dl) ow) H4 (OO (fun a => Oc a ∨ a = Dl) ow) (L2.upd H4 Dl (.lst (acc ++ [yv]))) := fun a o n q => ⟨n, by
                rw [upd_ne (fun z => n ((oeq a).mpr (.inr z)))]; exact q⟩
              refine ⟨acc, hl4, Evl.sz_lt (by rw [ra.len]; omega), ⟨acc ++ [yv], dn ++ [e], rest', Evl.Ex.mut (((e1.trans e2).trans e5).trans e8) hD, upd_same, ?_, e7, ?_, ?_⟩⟩
              · exact RpA.app ((((ra.ex e2).ex e5).ex e8).kp k4) (.one (ry.kp k4))
              · rw [hes, ← hr2, List.append_assoc]; rfl
              · rw [List.length_append, List.length_singleton]; omega
        | false =>
          rw [if_neg Bool.false_ne_true] at hr ⊢
          exact ⟨acc, dn, rest, (e1.trans e2).trans e5, e5 _ _ (e2 _ _ hl), (ra.ex e2).ex e5, hr, hes, by omega⟩
  · have hi2 : i = ds.length := by omega
    subst hi2
    refine .inl ⟨hw.stop _ H kps (hΦ H e1), ?_⟩
    rw [List.drop_length] at hr
    have hr' : rest = [] := (Option.some.inj hr).symm
    rw [hr', List.append_nil] at hes
    refine hq Dl H hD e1 ⟨acc, hl, ?_⟩
    rw [hes]
    exact ra.kp fun a o n q => ⟨fun z => n ((oeq a).mpr z), q⟩
theorem eo_lc {wi : TI} {it : DIF} {tg : TG} {f : DGF} {tte : TT} {ft : DTF} {tee : TE} {fe : DF} {vs : List Nat} (hi : IR K wi it) (hg : GRc K tg f vs) (ht : TR K tte ft) (he : ER K tee fe) : EO K (tLc wi tg tte tee vs) (dLc it f ft fe vs) := fun g d h H0 Oc pins ow σ H R Q q => by
  unfold dLc at h
  split at h
  · rename_i hf
    cases ei : it g with
    | none => rw [ei] at h; cases h
    | some ds =>
      rw [ei] at h
      simp only [Option.bind_some] at h
      split at h
      · rename_i hz
        cases el : lcL f ft fe (wipeG g vs) ds with
        | none => rw [el] at h; cases h
        | some es =>
          rw [el] at h
          cases h
          exact hi g ds ei H0 Oc pins ow σ H R _ fun J H1 ps e1 hps hw => lc_go hw hg ht he (R.grow e1) hf hps hz el (fun _ _ => trivial) fun p H' hp e' r => q p H' (e1.trans e') (Evl.fresh_back e1 hp) r
      · cases h
  · cases h
theorem er_of_eo (h : EO K te a) : ER K te a := fun g d e H0 Oc pins ow σ H R Q q => h g d e H0 Oc pins ow σ H R Q fun p H' e' hp r => q _ H' e' (by
  have n : ¬ OO Oc ow p := R.new hp
  cases d with
  | lst ds => obtain ⟨xs, h, r⟩ := r; exact .lst n h (r.kp fun a o z q => ⟨fun y => z (.inl y), q⟩)
  | ins C gs => obtain ⟨dx, fs, h, r⟩ := r; exact .ins n h (r.kp fun a o z q => ⟨fun y => z (.inl y), q⟩)
  | dct kvs => obtain ⟨xs, h, e1, r⟩ := r; exact .dct n h e1 (r.kp fun a o z q => ⟨fun y => z (.inl y), q⟩)
  | dck kvs => obtain ⟨xs, h, e1, r⟩ := r; exact .dck n h e1 (r.kp fun a o z q => ⟨fun y => z (.inl y), q⟩)
  | sti w ns => exact .sti n r
  | _ => exact r.elim)
end
end Zk
end

section
set_option Elab.async false
set_option linter.all false
set_option maxRecDepth 100000
set_option autoImplicit false
set_option maxHeartbeats 2000000
/-! Statements, loops, a def's promise, calls. -/
namespace Zk
open PySem L2 PyProof.Rows
open Evl (Ex)

section
variable {K : PySem.W.Frag} {ta tb te : TE} {a b : DF} {ts tu : TS} {s u : SF} {tt : TT} {t : DTF}
def sAsg (a : DF) (f : DGF) : SF := fun g => (a g).bind fun d => (f d g).map .nx
theorem sr_asg {tg : TG} {f : DGF} (ha : ER K te a) (hg : GR' K tg f) : SR K (tAsg te tg) (sAsg a f) := fun g out h H0 Oc pins ow σ H R De P => by
  unfold sAsg at h
  cases ea : a g with
  | none => rw [ea] at h; cases h
  | some d =>
    rw [ea] at h
    simp only [Option.bind_some] at h
    cases ef : f d g with
    | none => rw [ef] at h; cases h
    | some g1 =>
      rw [ef] at h
      cases h
      exact ha g d ea H0 Oc pins ow σ H R _ fun v H1 e1 r1 => hg d g g1 ef H0 Oc pins ow σ H1 v (R.grow e1) r1 _ fun ow' σ' _ R' => P ow' σ' H1 R'
/-- a slot is given a new thing of one's own -/
def sAsgO (a : DF) (i : Nat) : SF := fun g => (a g).bind fun d => if okSlot g i = true then some (.nx (g.set i (some (.o d)))) else none
theorem sr_asgO {i : Nat} (ha : EO K te a) : SR K (tAsg te (gName i)) (sAsgO a i) := fun g out h H0 Oc pins ow σ H R De P => by
  unfold sAsgO at h
  cases ea : a g with
  | none => rw [ea] at h; cases h
  | some d =>
    rw [ea] at h
    simp only [Option.bind_some] at h
    split at h
    · rename_i hi
      cases h
      exact ha g d ea H0 Oc pins ow σ H R _ fun p H1 e1 hp r1 => P _ _ H1 (R.setO hi hp e1 r1)
    · cases h
def sNext : SF := fun g => some (.nx g)
theorem sr_next : SR K tNext sNext := fun g out h H0 Oc pins ow σ H R De P => by cases h; exact P ow σ H R
def sBreak : SF := fun g => some (.bk g)
def sCont : SF := fun g => some (.ct g)
def sNever : SF := fun _ => none
theorem sr_never : SR K tNever sNever := fun g out h => by cases h
def sThen (o : Out) (u : SF) : Option Out := match o with
  | .nx g => u g
  | .bk g => some (.bk g)
  | .ct g => some (.ct g)
  | .rt w => some (.rt w)
def sSeq (s u : SF) : SF := fun g => (s g).bind fun o => sThen o u
theorem sr_seq (h1 : SR K ts s) (h2 : SR K tu u) : SR K (tSeq ts tu) (sSeq s u) := fun g out h H0 Oc pins ow σ H R De P => by
  unfold sSeq at h
  cases e1 : s g with
  | none => rw [e1] at h; cases h
  | some o =>
    rw [e1] at h
    simp only [Option.bind_some] at h
    refine h1 g o e1 H0 Oc pins ow σ H R _ ?_
    cases o with
    | nx g1 => exact fun ow' σ' H' R' => h2 g1 out h H0 Oc pins ow' σ' H' R' De P
    | bk g1 => cases h; exact P
    | ct g1 => cases h; exact P
    | rt w =>
      cases h
      cases w with
      | v d => exact P
      | o d => exact P
def sRet (a : DF) : SF := fun g => (a g).map fun d => .rt (.v d)
theorem kp_oc (Oc : Addr → Prop) (ow : OW) (H : Hp) : Kp (OO Oc ow) H Oc H := fun a o n e => ⟨fun z => n (.inl z), e⟩
theorem sr_ret (ha : ER K te a) : SR K (tRet te) (sRet a) := fun g out h H0 Oc pins ow σ H R De P => by
  unfold sRet at h
  cases ea : a g with
  | none => rw [ea] at h; cases h
  | some d =>
    rw [ea] at h
    cases h
    exact ha g d ea H0 Oc pins ow σ H R _ fun v H1 e1 r1 => P v H1 (R.ex.trans e1) (r1.kp (kp_oc Oc ow H1))
def sRetO (a : DF) : SF := fun g => (a g).map fun d => .rt (.o d)
/-- return x, x a list of one's own -/
def sRetV (i : Nat) : SF := fun g => match g[i]? with
  | some (some (.o d)) => some (.rt (.o d))
  | _ => none
theorem sr_retV (i : Nat) : SR K (tRet (tVar i)) (sRetV i) := fun g out h H0 Oc pins ow σ H R De P => by
  unfold sRetV at h
  split at h
  · rename_i d hd
    cases h
    obtain ⟨p, h1, h2, h3⟩ := R.own i d hd
    refine ⟨.ref p, h2, P p H R.ex (R.fr i p h1).1 (h3.kp (fun b o n q => ⟨fun z => ?_, q⟩) rfl)⟩
    rcases z with z | z
    · exact n (.inl z)
    · exact n (.inr ⟨i, by rw [z]; exact h1⟩)
  · cases h
def sRetN : SF := fun _ => some (.rt (.v .non))
def sIf (t : DTF) (s u : SF) : SF := fun g => (t g).bind fun b => if b = true then s g else u g
theorem sr_if (ht : TR K tt t) (h1 : SR K ts s) (h2 : SR K tu u) : SR K (tIfS tt ts tu) (sIf t s u) := fun g out h H0 Oc pins ow σ H R De P => by
  unfold sIf at h
  cases ea : t g with
  | none => rw [ea] at h; cases h
  | some b =>
    rw [ea] at h
    simp only [Option.bind_some] at h
    refine ht g b ea H0 Oc pins ow σ H R _ fun H1 e1 => ?_
    cases b with
    | true =>
      rw [if_pos rfl] at h ⊢
      exact h1 g out h H0 Oc pins ow σ H1 (R.grow e1) De P
    | false =>
      rw [if_neg Bool.false_ne_true] at h ⊢
      exact h2 g out h H0 Oc pins ow σ H1 (R.grow e1) De P
/-- owned things read by name are handed on: known from here on -/
def sFrz (fz : List Nat) (s : SF) : SF := fun g => s (frzs g fz)
theorem sr_frz (fz : List Nat) (h1 : SR K ts s) : SR K ts (sFrz fz s) := fun g out h H0 Oc pins ow σ H R De P => by
  obtain ⟨ow', R'⟩ := R.frzs fz
  exact h1 _ out h H0 Oc pins ow' σ H R' De P
/-- xs.append(e) -/
def sApp (i : Nat) (a : DF) : SF := fun g => (a g).bind fun d => match g[i]? with
  | some (some (.o (.lst ds))) => if ds.length < 100000 then some (.nx (g.set i (some (.o (.lst (ds ++ [d])))))) else none
  | _ => none
theorem sr_app {i : Nat} (ha : ER K te a) : SR K (tDrop (tBM K "list" rAppend (tVar i) (tCons te tNil))) (sApp i a) := fun g out h H0 Oc pins ow σ H R De P => by
  unfold sApp at h
  cases ea : a g with
  | none => rw [ea] at h; cases h
  | some d =>
    rw [ea] at h
    simp only [Option.bind_some] at h
    split at h
    · rename_i ds hd
      split at h
      · rename_i hl
        cases h
        obtain ⟨p, h1, h2, xs, h3, h4⟩ := R.own i _ hd
        refine ⟨.ref p, h2, .inl ⟨rfl, _, .of h3⟩, ?_⟩
        refine ha g d ea H0 Oc pins ow σ H R _ fun v H1 e1 r1 => ?_
        have k : Kp (OO Oc ow) H1 (OO Oc ow) (upd H1 p (.lst (xs ++ [v]))) := fun b o n q => ⟨n, by rw [upd_ne (fun z => n (.inr ⟨i, by rw [z]; exact h1⟩))]; exact q⟩
        refine ⟨p, xs, v, rfl, rfl, e1 _ _ h3, Evl.sz_lt (by rw [h4.len]; exact hl), P ow σ _ ((R.grow e1).upd hd h1 ⟨xs ++ [v], upd_same, RpA.app ((h4.ex e1).kp k) (.one (r1.kp k))⟩)⟩
      · cases h
    · cases h
/-- xs[i] = e -/
def sSetI (i : Nat) (b : DF) (a : DF) : SF := fun g => (a g).bind fun d => (b g).bind fun x => match x, g[i]? with
  | .int k, some (some (.o (.lst ds))) => (ixN ds.length k).map fun j => .nx (g.set i (some (.o (.lst (ds.set j d)))))
  | _, _ => none
theorem sr_setI {i : Nat} (hb : ER K tb b) (ha : ER K te a) : SR K (tAsg te (gSub (tVar i) tb rSetL)) (sSetI i b a) := fun g out h H0 Oc pins ow σ H R De P => by
  unfold sSetI at h
  cases ea : a g with
  | none => rw [ea] at h; cases h
  | some d =>
    rw [ea] at h
    simp only [Option.bind_some] at h
    cases eb : b g with
    | none => rw [eb] at h; cases h
    | some x =>
      rw [eb] at h
      simp only [Option.bind_some] at h
      split at h
      · rename_i k ds hd
        cases ej : ixN ds.length k with
        | none => rw [ej] at h; cases h
        | some j =>
          rw [ej] at h
          cases h
          obtain ⟨p, h1, h2, xs, h3, h4⟩ := R.own i _ hd
          refine ha g d ea H0 Oc pins ow σ H R _ fun v H1 e1 r1 => ⟨.ref p, h2, ?_⟩
          refine hb g _ eb H0 Oc pins ow σ H1 (R.grow e1) _ fun w H2 e2 r2 => ?_
          cases r2
          have k' : Kp (OO Oc ow) H2 (OO Oc ow) (upd H2 p (.lst (xs.set j v))) := fun b o n q => ⟨n, by rw [upd_ne (fun z => n (.inr ⟨i, by rw [z]; exact h1⟩))]; exact q⟩
          exact ⟨p, xs, k, j, rfl, rfl, e2 _ _ (e1 _ _ h3), by rw [h4.len]; exact ej, P ow σ _ (((R.grow e1).grow e2).upd hd h1 ⟨xs.set j v, upd_same, RpA.set ((r1.ex e2).kp k') j (((h4.ex e1).ex e2).kp k')⟩)⟩
      · cases h
/-- self.f = e -/
def putD (f : Str) (d : D) : List (Str × D) → List (Str × D)
  | [] => [(f, d)]
  | (n, e) :: r => if n = f then (n, d) :: r else (n, e) :: putD f d r
theorem RpF.put {O : Addr → Prop} {H : Hp} {f : Str} {v : V} {d : D} (r : Rp K O H v d) : ∀ {fs : List (Str × V)} {gs : List (Str × D)}, RpF K O H fs gs → RpF K O H (putF f v fs) (putD f d gs)
  | _, _, .nil => .cons r .nil
  | _, _, .cons (n := n) h t => by
    unfold putF putD
    by_cases e : n = f
    · rw [if_pos e, if_pos e]; exact .cons r t
    · rw [if_neg e, if_neg e]; exact .cons h (t.put r)
theorem RpF.len {O : Addr → Prop} {H : Hp} : ∀ {fs : List (Str × V)} {gs : List (Str × D)}, RpF K O H fs gs → fs.length = gs.length
  | _, _, .nil => rfl
  | _, _, .cons _ t => congrArg (· + 1) t.len
/-! ### for -/
def loopD (f : DGF) (s : SF) : List D → SF
  | [], g => some (.nx g)
  | d :: ds, g => (f d g).bind fun g1 => (s g1).bind fun o => match o with
    | .nx g2 => loopD f s ds g2
    | .ct g2 => loopD f s ds g2
    | .bk g2 => some (.nx g2)
    | .rt w => some (.rt w)
def sFor (it : DIF) (f : DGF) (s : SF) : SF := fun g => (it g).bind fun ds => loopD f s ds g
theorem sr_for {wi : TI} {it : DIF} {tg : TG} {f : DGF} (hi : IR K wi it) (hg : GR' K tg f) (hs : SR K ts s) : SR K (tFor wi tg ts) (sFor it f s) := fun g out h H0 Oc pins ow σ H R De P => by
  unfold sFor at h
  cases ei : it g with
  | none => rw [ei] at h; cases h
  | some ds =>
    rw [ei] at h
    simp only [Option.bind_some] at h
    refine hi g ds ei H0 Oc pins ow σ H R _ fun J H1 ps e1 hps hw => ?_
    let Pv : Nat → L2.St → Hp → Prop := fun i σ' H' => ∃ ow' g', Reps K H0 Oc (pins.more ps) ow' σ' H' g' ∧ loopD f s (ds.drop i) g' = some out
    refine ⟨fun i m σ' H' => m = ds.length - i ∧ i ≤ ds.length ∧ Pv i σ' H', ⟨ds.length, rfl, Nat.zero_le _, ⟨ow, g, (R.grow e1).morePins hps, h⟩⟩, ?_⟩
    rintro i m σ' H' ⟨rfl, hi, ⟨ow', g', R', hl⟩⟩
    have kps : ∀ p ∈ ps, Rp K (OO Oc ow') H' p.1 p.2 := fun p hp => R'.pin p (List.mem_append_left _ hp)
    by_cases hlt : i < ds.length
    · refine .inr ⟨hw.go _ i H' hlt kps trivial, Pv (i + 1), fun σ2 H2 p => ⟨ds.length - (i + 1), by omega, rfl, hlt, p⟩, fun x H2 y => ?_⟩
      have hd : ds[i]? = some ds[i] := List.getElem?_eq_getElem hlt
      obtain ⟨e2, rx⟩ := hw.yld _ i H' x H2 ds[i] R'.oo kps y hd
      rw [show ds.drop i = ds[i] :: ds.drop (i + 1) from List.drop_eq_getElem_cons hlt] at hl
      unfold loopD at hl
      cases e3 : f ds[i] g' with
      | none => rw [e3] at hl; cases hl
      | some g1 =>
        rw [e3] at hl
        simp only [Option.bind_some] at hl
        cases e4 : s g1 with
        | none => rw [e4] at hl; cases hl
        | some o =>
          rw [e4] at hl
          simp only [Option.bind_some] at hl
          refine hg ds[i] g' g1 e3 H0 Oc _ ow' σ' H2 x (R'.grow e2) rx _ fun ow2 σ2 _ R2 => ?_
          refine hs g1 o e4 H0 Oc _ ow2 σ2 H2 R2 _ ?_
          cases o with
          | nx g2 => exact fun ow3 σ3 H3 R3 => ⟨ow3, g2, R3, hl⟩
          | ct g2 => exact fun ow3 σ3 H3 R3 => ⟨ow3, g2, R3, hl⟩
          | bk g2 =>
            cases hl
            exact fun ow3 σ3 H3 R3 => P ow3 σ3 H3 R3.lessPins
          | rt w =>
            cases hl
            cases w with
            | v d => exact P
            | o d => exact P
    · have e : i = ds.length := by omega
      subst e
      refine .inl ⟨hw.stop _ H' kps trivial, ?_⟩
      rw [List.drop_length] at hl
      cases hl
      exact P ow' σ' H' R'.lessPins
end

/-! ### a def's promise -/
def Wd.d : Wd → D
  | .v d => d
  | .o d => d
def Ret (K : PySem.W.Frag) (H0 : Hp) (Oc : Addr → Prop) (Q : VK) : Wd → Prop
  | .v d => ∀ v H, Ex H0 H → Rp K Oc H v d → Q v H
  | .o d => ∀ p H, Ex H0 H → H0 p = none → RpO K (fun a => Oc a ∨ a = p) H p d → Q (.ref p) H
abbrev PF : Type := List D → Option Wd
def spG (K : PySem.W.Frag) (n : Nat) (gf : PF) : Sp := fun vs H Q _ => ∃ (Oc : Addr → Prop) (ds : List D) (w : Wd), vs.length = n ∧ (∀ a, Oc a → Lv H a) ∧ RpA K Oc H vs ds ∧ gf ds = some w ∧ Ret K H Oc Q w
def runG (m : Nat) (t : SF) : PF := fun ds => match t (ds.map (fun d => some (.v d)) ++ List.replicate m none) with
  | some (.rt w) => some w
  | some (.nx _) => some (.v .non)
  | _ => none
theorem reps_start {K : PySem.W.Frag} {H : Hp} {Oc : Addr → Prop} (oc : ∀ a, Oc a → Lv H a) (N : List Str) {vs : List V} {ds : List D} (r : RpA K Oc H vs ds) {m : Nat} (hm : N.length = vs.length + m) :
    Reps K H Oc ⟨[], none⟩ noOw (L2.start N vs) H (ds.map (fun d => some (.v d)) ++ List.replicate m none) where
  len := by
    unfold L2.start
    simp only [List.length_append, List.length_map, List.length_replicate]
    have := r.len
    omega
  ex := Evl.Ex.refl H
  oc := oc
  fr := fun i a h => by cases h
  inj := fun i j a h => by cases h
  is := fun i a h => by cases h
  val := fun i d h => by
    have k : Kp Oc H (OO Oc noOw) H := fun a o n e => ⟨fun z => z.elim n fun ⟨i, z⟩ => (by cases z), e⟩
    have hi : i < ds.length := by
      by_cases hi : i < ds.length
      · exact hi
      · rw [List.getElem?_append_right (by simp; omega)] at h
        rw [List.getElem?_replicate] at h
        split at h <;> cases h
    rw [List.getElem?_append_left (by simp; exact hi), List.getElem?_map] at h
    cases e : ds[i]? with
    | none => rw [e] at h; cases h
    | some d' =>
      rw [e] at h
      cases h
      obtain ⟨v, h1, h2⟩ := r.get e
      refine ⟨v, ?_, h2.kp k⟩
      unfold L2.start
      have : i < vs.length := by rw [r.len]; exact hi
      rw [List.getElem?_append_left (by simp; exact this), List.getElem?_map, h1]
      rfl
  own := fun i d h => by
    have hi : ¬ i < ds.length := fun hi => by
      rw [List.getElem?_append_left (by simp; exact hi), List.getElem?_map] at h
      cases e : ds[i]? with
      | none => rw [e] at h; cases h
      | some d' => rw [e] at h; cases h
    rw [List.getElem?_append_right (by simp; omega)] at h
    rw [List.getElem?_replicate] at h
    split at h <;> cases h
  pin := fun p h => by cases h
  slf := fun x h => by cases h
section
variable {P : Program} {w : World} {K : PySem.W.Frag} {mg : Str → Option Value} {base : Heap}
theorem fnG {x qual : Str} {st : Stmt} {f : Addr} {fd : FuncData} {N ps : List Str} {k n m : Nat} {t : SF} (F : Fun K x qual st f fd) (S : FnScope N ps (defScope st)) (hn : n = ps.length) (hm : N.length = n + m)
    (hb : ∀ (cdv : Value) (A : Around) (outer : List Env) (s : Shared) (H : Hp) (E : XK), Room k (A.deeper (envOfC qual (defScope st) s.heap.objs.size f cdv)) → ∃ ts, PSs (cxOf CX0 P w K mg base N qual (defScope st) f cdv A outer s H E).nox (defBody st) ts ∧ SR K ts t) : FnOk P w K mg base CX0 (k + 1) f fd ps (spG K n (runG m t)) := by
  subst hn
  refine F.ok S (fun vs H Q E h => ?_) (fun cdv A outer s H vs Q E hr h => ?_)
  · obtain ⟨_, _, _, h, _⟩ := h
    exact h
  · obtain ⟨Oc, ds, wd, hl, oc, r, hg, q⟩ := h
    obtain ⟨ts, hts, hs⟩ := hb cdv A outer s H E hr
    refine ⟨ts, hts, ?_⟩
    have R := reps_start oc N r (m := m) (by rw [hl]; exact hm)
    unfold runG at hg
    split at hg
    · rename_i w' e
      cases hg
      refine hs _ _ e H Oc _ noOw _ H R _ ?_
      cases wd with
      | v d => exact q
      | o d => exact q
    · rename_i g e
      cases hg
      exact hs _ _ e H Oc _ noOw _ H R _ fun ow σ H' R' => q .non H' R'.ex .non
    · cases hg
theorem FnOk.gf {f : Addr} {fd : FuncData} {ps : List Str} {k n : Nat} {gf gf' : PF} (F : FnOk P w K mg base CX0 k f fd ps (spG K n gf)) (h : ∀ ds w, gf' ds = some w → gf ds = some w) : FnOk P w K mg base CX0 k f fd ps (spG K n gf') :=
  F.imp fun vs H Q E ⟨Oc, ds, w, h1, h2, h3, h4, h5⟩ => ⟨Oc, ds, w, h1, h2, h3, h ds w h4, h5⟩
end
section
variable {K : PySem.W.Frag}
def dCall (n : Nat) (gf : PF) (a : DAF) : DF := fun g => (a g).bind fun ds => if ds.length = n then (gf ds).map Wd.d else none
theorem RpO.toRp {O : Addr → Prop} {H : Hp} {p : Addr} {d : D} (n : ¬ O p) (r : RpO K (fun a => O a ∨ a = p) H p d) : Rp K O H (.ref p) d := r.rp (fun b o m q => ⟨fun z => m (.inl z), q⟩) n
theorem er_call {n : Nat} {gf : PF} {E : XK} {ta : TA} {a : DAF} (ha : AR K ta a) : ER K (tCall (spG K n gf) [] E ta) (dCall n gf a) := fun g d h H0 Oc pins ow σ H R Q q => by
  unfold dCall at h
  cases ea : a g with
  | none => rw [ea] at h; cases h
  | some ds =>
    rw [ea] at h
    simp only [Option.bind_some] at h
    split at h
    · rename_i hn
      cases ew : gf ds with
      | none => rw [ew] at h; cases h
      | some wd =>
        rw [ew] at h
        cases h
        refine ha g ds ea H0 Oc pins ow σ H R _ fun vs H1 e1 r1 => ?_
        refine ⟨OO Oc ow, ds, wd, by rw [List.append_nil, r1.len]; exact hn, (R.grow e1).oo, by rw [List.append_nil]; exact r1, ew, ?_⟩
        cases wd with
        | v d => exact fun v H2 e2 r2 => q v H2 (e1.trans e2) r2
        | o d => exact fun p H2 e2 hp r2 => q _ H2 (e1.trans e2) (r2.toRp ((R.grow e1).new hp))
    · cases h
def dCallO (n : Nat) (gf : PF) (a : DAF) : DF := fun g => (a g).bind fun ds => if ds.length = n then (match gf ds with
  | some (.o d) => some d
  | _ => none) else none
/-! ### __init__ and C(..) -/
def dMake (C : Addr) (n : Nat) (gf : List D → Option (List (Str × D))) (a : DAF) : DF := fun g => (a g).bind fun ds => if ds.length = n then (gf ds).map (.ins C) else none
end
end Zk
end

section
set_option Elab.async false
set_option linter.all false
set_option maxRecDepth 100000
set_option autoImplicit false
set_option maxHeartbeats 2000000
/-! len(set(ints)); names of the built-ins; odds. -/
namespace Zk
open PySem L2 PyProof.Rows
open Evl (Ex)

/-! ### how many different ones -/
def dd : List Int → List Int
  | [] => []
  | x :: xs => if x ∈ xs then dd xs else x :: dd xs
section
variable {K : PySem.W.Frag}
def negD : D → Option D
  | .int i => some (.int (-i))
  | _ => none
/-- a flat value may look at what is owned -/
def peekF (a : DF) : DF := fun g => match a (frzAll g) with
  | some d => if d.flat = true then some d else none
  | none => none
theorem er_peekF {te : TE} {a : DF} (ha : ER K te a) : ER K te (peekF a) := fun g d h H0 Oc pins ow σ H R Q q => by
  unfold peekF at h
  split at h
  · rename_i d' e
    split at h
    · rename_i f
      cases h
      exact ha _ d e H0 Oc _ noOw σ H R.frzAll Q fun v H' e' r => q v H' e' (r.flat f)
    · cases h
  · cases h
end
/-! ### the built-ins by name -/
theorem bt_len : bootBuiltins "len" = some (.builtin "len") := by decide +kernel
theorem bt_abs : bootBuiltins "abs" = some (.builtin "abs") := by decide +kernel
theorem bt_min : bootBuiltins "min" = some (.builtin "min") := by decide +kernel
theorem bt_all : bootBuiltins "all" = some (.builtin "all") := by decide +kernel
theorem bt_isinstance : bootBuiltins "isinstance" = some (.builtin "isinstance") := by decide +kernel
theorem bt_int : bootBuiltins "int" = some (.type "int") := by decide +kernel
theorem bt_bool : bootBuiltins "bool" = some (.type "bool") := by decide +kernel
theorem bt_str : bootBuiltins "str" = some (.type "str") := by decide +kernel
theorem bt_tuple : bootBuiltins "tuple" = some (.type "tuple") := by decide +kernel
end Zk
end

section
set_option Elab.async false
set_option linter.all false
set_option maxRecDepth 100000
set_option autoImplicit false
set_option maxHeartbeats 2000000
/-! Comprehensions of two clauses. -/
namespace Zk
open PySem L2 PyProof.Rows
open Evl (Ex)

/-- all but what stands at Dl is kept -/
def Tch (Dl : Addr) (H H2 : Hp) : Prop := ∀ a o, a ≠ Dl → H a = some o → H2 a = some o
theorem Tch.refl (Dl : Addr) (H : Hp) : Tch Dl H H := fun _ _ _ h => h
theorem Tch.trans {Dl : Addr} {H H1 H2 : Hp} (a : Tch Dl H H1) (b : Tch Dl H1 H2) : Tch Dl H H2 := fun c o n h => b c o n (a c o n h)
theorem Tch.ex {Dl : Addr} {H H1 : Hp} (e : Ex H H1) : Tch Dl H H1 := fun a o _ h => e a o h
theorem Tch.upd {Dl : Addr} {H : Hp} {o : HO} : Tch Dl H (L2.upd H Dl o) := fun a u n h => by rw [upd_ne n]; exact h
section
variable {K : PySem.W.Frag}
theorem Tch.kp {Dl : Addr} {O : Addr → Prop} {H H2 : Hp} (e : Tch Dl H H2) (hD : O Dl) : Kp O H O H2 := fun a o n h => ⟨n, e a o (fun z => n (z ▸ hD)) h⟩
open Classical in
theorem Reps.touch {B H H2 : Hp} {Oc : Addr → Prop} {pins : Pn} {ow : OW} {σ : L2.St} {g : Gm} {Dl : Addr} (R : Reps K B Oc pins ow σ H g) (hD : Oc Dl) (e : Tch Dl H H2) (h2 : Lv H2 Dl) :
    ∃ B', Reps K B' Oc pins ow σ H2 g := by
  have k : Kp (OO Oc ow) H (OO Oc ow) H2 := e.kp (.inl hD)
  have nD : ∀ i a, ow i = some a → a ≠ Dl := fun i a h z => (R.oc Dl hD).1 (by rw [← z]; exact (R.fr i a h).1)
  have there : ∀ a, a ≠ Dl → Lv H a → Lv H2 a := fun a n h => by
    cases y : H a with
    | none => exact absurd y h.1
    | some o =>
      have q := e a o n y
      exact ⟨fun z => (by rw [q] at z; cases z), fun xs z => (by rw [q] at z; exact h.2 xs (y.trans z))⟩
  refine ⟨fun b => if ∃ i, ow i = some b then none else H2 b, ?_⟩
  exact {
    len := R.len
    ex := fun a o h => by
      have h : (if ∃ i, ow i = some a then none else H2 a) = some o := h
      split at h
      · cases h
      · exact h
    oc := fun a h => by
      have nw : ¬ ∃ i, ow i = some a := fun ⟨i, z⟩ => (R.oc a h).1 (R.fr i a z).1
      show (if ∃ i, ow i = some a then none else H2 a) ≠ none ∧ ∀ xs, (if ∃ i, ow i = some a then none else H2 a) ≠ some (.tup xs)
      rw [if_neg nw]
      by_cases q : a = Dl
      · rw [q]; exact h2
      · exact there a q (R.oo a (.inl h))
    fr := fun i a h => ⟨if_pos ⟨i, h⟩, there a (nD i a h) (R.fr i a h).2⟩
    inj := R.inj
    is := R.is
    val := fun i d h => let ⟨v, h1, h2⟩ := R.val i d h; ⟨v, h1, h2.kp k⟩
    own := fun i d h => let ⟨a, h1, h2, h3⟩ := R.own i d h; ⟨a, h1, h2, h3.kp k (by
      cases y : H a with
      | none => exact absurd y h3.there
      | some o => exact e a o (nD i a h1) y)⟩
    pin := fun p h => (R.pin p h).kp k
    slf := R.slf }
end
end Zk
end

section
set_option Elab.async false
set_option linter.all false
set_option maxRecDepth 100000
set_option autoImplicit false
set_option maxHeartbeats 2000000
/-! in and count over items of any shape. -/
namespace Zk
open PySem L2 PyProof.Rows
open Evl (Ex)
/-- small data -/
def small (p : PyData) : Bool := p.canLay0 && decide (p.depth ≤ 60)
section
variable {X : Cx}
end
def inPB (x : D) : D → Option Bool
  | .lst ds => (toP x).bind fun d => (toPs ds).bind fun ps => if small d && PyData.canLayAll0 ps then some (ps.any fun z => PyData.eqv z d) else none
  | .tup ds => (toP x).bind fun d => (toPs ds).bind fun ps => if small d && PyData.canLayAll0 ps then some (ps.any fun z => PyData.eqv z d) else none
  | _ => none
def inPD (x y : D) : Option D := (inPB x y).map .bl
def ninPD (x y : D) : Option D := (inPB x y).map fun b => .bl (!b)
section
variable {K : PySem.W.Frag}
def countD (y x : D) : Option D := match y with
  | .lst ds => (toP x).bind fun d => (toPs ds).bind fun ps => if small d && PyData.canLayAll0 ps then some (.int ((ps.countP fun z => PyData.eqv z d : Nat) : Int)) else none
  | _ => none
/-- a new list of flat items may be made of what is owned -/
def peekO (a : DF) : DF := fun g => match a (frzAll g) with
  | some (.lst ds) => if ds.all D.flat then some (.lst ds) else none
  | _ => none
end
end Zk
end

section
set_option Elab.async false
set_option linter.all false
set_option maxRecDepth 100000
set_option autoImplicit false
set_option maxHeartbeats 2000000
/-! Dicts as data. -/
namespace Zk
open PySem L2
open Evl (Ex)
/-! ### keys -/
variable {K : PySem.W.Frag}
/-! ### look-up, store -/
def getK (kvs : List (List Key × D)) (k : List Key) : Option D := (kvs.find? fun kv => decide (kv.1 = k)).map (·.2)
def setK (kvs : List (List Key × D)) (k : List Key) (d : D) : List (List Key × D) :=
  if (kvs.any fun kv => decide (kv.1 = k)) = true then kvs.map (fun kv => if kv.1 = k then (kv.1, d) else kv) else kvs ++ [(k, d)]
/-- a dict's pairs and their data -/
def RpD (K : PySem.W.Frag) (O : Addr → Prop) (H : Hp) (xs : List (List Key × V)) (kvs : List (List Key × D)) : Prop := xs.map (·.1) = kvs.map (·.1) ∧ RpA K O H (xs.map (·.2)) (kvs.map (·.2))
theorem RpD.nil {O : Addr → Prop} {H : Hp} : RpD K O H [] [] := ⟨rfl, .nil⟩
theorem RpD.inv {O : Addr → Prop} {H : Hp} {x : List Key × V} {xs : List (List Key × V)} {kvs : List (List Key × D)} (r : RpD K O H (x :: xs) kvs) : ∃ d kvs', kvs = (x.1, d) :: kvs' ∧ Rp K O H x.2 d ∧ RpD K O H xs kvs' := by
  obtain ⟨e, r⟩ := r
  cases kvs with
  | nil => cases e
  | cons kv kvs =>
    rw [List.map_cons, List.map_cons] at e r
    have e1 := (List.cons.inj e).1
    cases r with
    | cons a b => exact ⟨kv.2, kvs, by rw [e1], a, (List.cons.inj e).2, b⟩
theorem RpD.get {O : Addr → Prop} {H : Hp} : ∀ {xs : List (List Key × V)} {kvs : List (List Key × D)} (k : List Key), RpD K O H xs kvs →
    (getK kvs k = none ∧ valV xs k = none) ∨ ∃ d v, getK kvs k = some d ∧ valV xs k = some v ∧ Rp K O H v d
  | [], kvs, k, r => by
    obtain ⟨e, _⟩ := r
    cases kvs with
    | nil => exact .inl ⟨rfl, rfl⟩
    | cons a b => cases e
  | x :: xs, kvs, k, r => by
    obtain ⟨d, kvs', rfl, h1, h2⟩ := r.inv
    by_cases hk : x.1 = k
    · refine .inr ⟨d, x.2, ?_, valV_pos hk, h1⟩
      unfold getK
      rw [List.find?_cons, decide_eq_true hk]
      rfl
    · have ih := RpD.get k h2
      rw [valV_neg hk]
      have e : getK ((x.1, d) :: kvs') k = getK kvs' k := by
        unfold getK
        rw [List.find?_cons, decide_eq_false hk]
      rw [e]
      exact ih
theorem RpD.set {O : Addr → Prop} {H : Hp} {xs : List (List Key × V)} {kvs : List (List Key × D)} (k : List Key) {v : V} {d : D} (r : RpD K O H xs kvs) (hv : Rp K O H v d) : RpD K O H (putK xs k v) (setK kvs k d) := by
  have ha : (xs.any fun kv => decide (kv.1 = k)) = (kvs.any fun kv => decide (kv.1 = k)) := by
    have e1 : ∀ l : List (List Key × V), (l.any fun kv => decide (kv.1 = k)) = ((l.map (·.1)).any fun z => decide (z = k)) := fun l => by rw [List.any_map]; rfl
    have e2 : ∀ l : List (List Key × D), (l.any fun kv => decide (kv.1 = k)) = ((l.map (·.1)).any fun z => decide (z = k)) := fun l => by rw [List.any_map]; rfl
    rw [e1, e2, r.1]
  unfold putK setK
  rw [ha]
  split
  · have go : ∀ (xs : List (List Key × V)) (kvs : List (List Key × D)), RpD K O H xs kvs → RpD K O H (xs.map fun kv => if kv.1 = k then (kv.1, v) else kv) (kvs.map fun kv => if kv.1 = k then (kv.1, d) else kv) := by
      intro xs
      induction xs with
      | nil =>
        intro kvs r
        cases kvs with
        | nil => exact .nil
        | cons a b => cases r.1
      | cons x xs ih =>
        intro kvs r
        obtain ⟨d', kvs', rfl, h1, h2⟩ := r.inv
        have ih := ih kvs' h2
        rw [List.map_cons, List.map_cons]
        by_cases hk : x.1 = k
        · rw [if_pos hk, if_pos hk]
          exact ⟨by rw [List.map_cons, List.map_cons, ih.1], .cons hv ih.2⟩
        · rw [if_neg hk, if_neg hk]
          exact ⟨by rw [List.map_cons, List.map_cons, ih.1], .cons h1 ih.2⟩
    exact go xs kvs r
  · exact ⟨by rw [List.map_append, List.map_append, r.1]; rfl, by rw [List.map_append, List.map_append]; exact r.2.app (.one hv)⟩
theorem RpD.kp {O O' : Addr → Prop} {H H' : Hp} (k : Kp O H O' H') {xs : List (List Key × V)} {kvs : List (List Key × D)} (r : RpD K O H xs kvs) : RpD K O' H' xs kvs := ⟨r.1, r.2.kp k⟩
theorem RpD.len {O : Addr → Prop} {H : Hp} {xs : List (List Key × V)} {kvs : List (List Key × D)} (r : RpD K O H xs kvs) : xs.length = kvs.length := by
  have := congrArg List.length r.1
  rw [List.length_map, List.length_map] at this
  exact this
/-! ### a dict in a slot, owned or not -/
section
variable {tk tx tv : TE} {k x a : DF} {i : Nat}
end
end Zk
end

section
set_option Elab.async false
set_option linter.all false
set_option maxRecDepth 100000
set_option autoImplicit false
set_option maxHeartbeats 2000000
/-! A dict of lists that are filled in their places. -/
namespace Zk
open PySem L2
open Evl (Ex)
variable {K : PySem.W.Frag}
abbrev SeatL : Type := List (List Key × List Int)
def addSeat (kvs : SeatL) (k : List Key) (i : Int) : SeatL := if (kvs.any fun kv => decide (kv.1 = k)) = true then kvs.map (fun kv => if kv.1 = k then (kv.1, kv.2 ++ [i]) else kv) else kvs ++ [(k, [i])]
/-- the dict at d, its lists new and each by itself -/
structure Dp (H0 H : Hp) (d : Addr) (xs : List (List Key × V)) (kvs : SeatL) : Prop where
  keys : xs.map (·.1) = kvs.map (·.1)
  nod : (kvs.map (·.1)).Nodup
  val : ∀ (j : Nat) (k : List Key) (es : List Int), kvs[j]? = some (k, es) → ∃ b, xs[j]? = some (k, .ref b) ∧ H0 b = none ∧ b ≠ d ∧ H b = some (.lst (es.map V.int))
  inj : ∀ (j l : Nat) (k k' : List Key) (b : Addr), xs[j]? = some (k, .ref b) → xs[l]? = some (k', .ref b) → j = l
theorem Dp.len {H0 H : Hp} {d : Addr} {xs : List (List Key × V)} {kvs : SeatL} (p : Dp H0 H d xs kvs) : xs.length = kvs.length := by
  have := congrArg List.length p.keys
  rw [List.length_map, List.length_map] at this
  exact this
theorem Dp.ex {H0 H H' : Hp} {d : Addr} {xs : List (List Key × V)} {kvs : SeatL} (p : Dp H0 H d xs kvs) (e : ∀ b o, H b = some o → b ≠ d → H' b = some o) : Dp H0 H' d xs kvs :=
  ⟨p.keys, p.nod, fun j k es h => let ⟨b, h1, h2, h3, h4⟩ := p.val j k es h; ⟨b, h1, h2, h3, e b _ h4 h3⟩, p.inj⟩
theorem any_key {α : Type} (l : List (List Key × α)) (k : List Key) : (l.any fun kv => decide (kv.1 = k)) = true ↔ k ∈ l.map (fun kv => kv.1) := by
  rw [List.any_eq_true, List.mem_map]
  exact ⟨fun ⟨x, h1, h2⟩ => ⟨x, h1, of_decide_eq_true h2⟩, fun ⟨x, h1, h2⟩ => ⟨x, h1, decide_eq_true h2⟩⟩
/-- one more item in the list of a key that is there -/
theorem Dp.more {H0 H : Hp} {d b : Addr} {xs : List (List Key × V)} {kvs : SeatL} (p : Dp H0 H d xs kvs) {k : List Key} {j : Nat} (hj : xs[j]? = some (k, .ref b)) (i : Int) :
    ∃ es, kvs[j]? = some (k, es) ∧ H b = some (.lst (es.map V.int)) ∧ Dp H0 (upd H b (.lst (es.map V.int ++ [.int i]))) d xs (addSeat kvs k i) := by
  have hk : (kvs.map (·.1))[j]? = some k := by rw [← p.keys, List.getElem?_map, hj]; rfl
  obtain ⟨es, e⟩ : ∃ es, kvs[j]? = some (k, es) := by
    rw [List.getElem?_map] at hk
    cases e : kvs[j]? with
    | none => rw [e] at hk; cases hk
    | some kv =>
      rw [e] at hk
      exact ⟨kv.2, by rw [← Option.some.inj hk]⟩
  · obtain ⟨b', h1, h2, h3, h4⟩ := p.val j k es e
    rw [hj] at h1
    cases h1
    refine ⟨es, e, h4, ?_⟩
    have hin : k ∈ kvs.map (·.1) := List.mem_map.mpr ⟨(k, es), List.mem_of_getElem? e, rfl⟩
    have ea : addSeat kvs k i = kvs.map fun kv => if kv.1 = k then (kv.1, kv.2 ++ [i]) else kv := by
      unfold addSeat
      rw [if_pos ((any_key kvs k).mpr hin)]
    have ek : (kvs.map fun kv => if kv.1 = k then (kv.1, kv.2 ++ [i]) else kv).map (·.1) = kvs.map (·.1) := by
      rw [List.map_map]
      refine List.map_congr_left fun kv _ => ?_
      show (if kv.1 = k then (kv.1, kv.2 ++ [i]) else kv).1 = kv.1
      split <;> rfl
    rw [ea]
    refine ⟨by rw [ek]; exact p.keys, by rw [ek]; exact p.nod, fun l k' es' hl => ?_, p.inj⟩
    rw [List.getElem?_map] at hl
    cases e2 : kvs[l]? with
    | none => rw [e2] at hl; cases hl
    | some kv =>
      rw [e2] at hl
      obtain ⟨k2, es2⟩ := kv
      obtain ⟨b2, g1, g2, g3, g4⟩ := p.val l k2 es2 e2
      by_cases hkk : k2 = k
      · have hl2 : (if k2 = k then (k2, es2 ++ [i]) else (k2, es2)) = (k', es') := Option.some.inj hl
        rw [if_pos hkk] at hl2
        cases hl2
        rw [hkk] at e2 g1 ⊢
        have hjl : j = l := by
          have a1 : (kvs.map (·.1))[j]? = some k := by rw [List.getElem?_map, e]; rfl
          have a2 : (kvs.map (·.1))[l]? = some k := by rw [List.getElem?_map, e2]; rfl
          exact (List.getElem?_inj (List.getElem?_eq_some_iff.mp a1).1 p.nod).mp (a1.trans a2.symm)
        subst hjl
        rw [hj] at g1
        cases g1
        rw [e] at e2
        cases e2
        exact ⟨b, hj, g2, g3, by rw [upd_same, List.map_append]; rfl⟩
      · have hl2 : (if k2 = k then (k2, es2 ++ [i]) else (k2, es2)) = (k', es') := Option.some.inj hl
        rw [if_neg hkk] at hl2
        cases hl2
        have nb : b2 ≠ b := fun z => by
          subst z
          have := p.inj j l _ _ _ hj g1
          subst this
          rw [e] at e2
          cases e2
          exact hkk rfl
        exact ⟨b2, g1, g2, g3, by rw [upd_ne nb]; exact g4⟩
/-- a new key -/
theorem Dp.new {H0 H : Hp} {d l : Addr} {xs : List (List Key × V)} {kvs : SeatL} (p : Dp H0 H d xs kvs) {k : List Key} (hk : k ∉ xs.map (·.1)) (hl0 : H0 l = none) (hld : l ≠ d) (hl : H l = none) (i : Int) {H' : Hp} (e : ∀ b o, H b = some o → b ≠ d → H' b = some o) (h' : H' l = some (.lst [.int i])) :
    Dp H0 H' d (xs ++ [(k, .ref l)]) (addSeat kvs k i) := by
  have hk2 : k ∉ kvs.map (·.1) := by rw [← p.keys]; exact hk
  have ea : addSeat kvs k i = kvs ++ [(k, [i])] := by
    unfold addSeat
    rw [if_neg fun z => hk2 ((any_key kvs k).mp z)]
  have hlen := p.len
  have old : ∀ (j : Nat) (k' : List Key) (b : Addr), xs[j]? = some (k', .ref b) → b ≠ l := fun j k' b h z => by
    have hj : j < kvs.length := by rw [← hlen]; exact (List.getElem?_eq_some_iff.mp h).1
    obtain ⟨b', h1, _, _, h4⟩ := p.val j _ _ (List.getElem?_eq_getElem hj)
    rw [h] at h1
    cases h1
    rw [z, hl] at h4
    cases h4
  rw [ea]
  refine ⟨by rw [List.map_append, List.map_append, p.keys]; rfl, ?_, fun j k' es h => ?_, fun j j' k1 k2 b h1 h2 => ?_⟩
  · rw [List.map_append, List.nodup_append]
    exact ⟨p.nod, by simp, fun a ha b hb z => hk2 (by simp at hb; rw [← hb, ← z]; exact ha)⟩
  · by_cases hj : j < kvs.length
    · rw [List.getElem?_append_left hj] at h
      obtain ⟨b, h1, h2, h3, h4⟩ := p.val j k' es h
      exact ⟨b, by rw [List.getElem?_append_left (by omega)]; exact h1, h2, h3, e b _ h4 h3⟩
    · rw [List.getElem?_append_right (by omega)] at h
      have h0 : j - kvs.length = 0 := by
        by_cases h0 : j - kvs.length = 0
        · exact h0
        · rw [List.getElem?_eq_none (by simp; omega)] at h; cases h
      rw [h0] at h
      cases h
      exact ⟨l, by rw [List.getElem?_append_right (by omega), hlen, h0]; rfl, hl0, hld, h'⟩
  · have lem : ∀ (j : Nat) (k1 : List Key), (xs ++ [(k, V.ref l)])[j]? = some (k1, .ref b) → (j < xs.length ∧ xs[j]? = some (k1, .ref b)) ∨ (j = xs.length ∧ b = l) := fun j k1 h => by
      by_cases hj : j < xs.length
      · rw [List.getElem?_append_left hj] at h; exact .inl ⟨hj, h⟩
      · rw [List.getElem?_append_right (by omega)] at h
        by_cases h0 : j - xs.length = 0
        · rw [h0] at h; cases h; exact .inr ⟨by omega, rfl⟩
        · rw [List.getElem?_eq_none (by simp; omega)] at h; cases h
    rcases lem j k1 h1 with ⟨a1, a2⟩ | ⟨a1, a2⟩ <;> rcases lem j' k2 h2 with ⟨b1, b2⟩ | ⟨b1, b2⟩
    · exact p.inj j j' k1 k2 b a2 b2
    · exact absurd b2 (old j k1 b a2)
    · exact absurd a2 (old j' k2 b b2)
    · omega
end Zk
end

section
set_option Elab.async false
set_option linter.all false
set_option maxRecDepth 100000
set_option autoImplicit false
set_option maxHeartbeats 2000000
/-! A call whose answer is either a new thing or a value, kept as it is. -/
namespace Zk
open PySem L2
open Evl (Ex)
variable {K : PySem.W.Frag}
def WE (K : PySem.W.Frag) (te : TE) (a : Gm → Option Wd) : Prop := ∀ g w, a g = some w → ∀ H0 Oc pins ow σ H, Reps K H0 Oc pins ow σ H g → ∀ Q : VK,
  (∀ d, w = .v d → ∀ v H', Ex H H' → Rp K (OO Oc ow) H' v d → Q v H') → (∀ d, w = .o d → ∀ p H', Ex H H' → H p = none → RpO K (fun a => OO Oc ow a ∨ a = p) H' p d → Q (.ref p) H') → te σ H Q
end Zk
namespace Zk
open PySem L2
open Evl (Ex)
variable {K : PySem.W.Frag}
end Zk
end

section
set_option Elab.async false
set_option linter.all false
set_option maxRecDepth 100000
set_option autoImplicit false
set_option maxHeartbeats 4000000
/-! Defs that are called where no guard stands; repr of data. -/
namespace Zg
open PySem PySem.Spec L2 Zk PyProof.Rows
open Evl (Ex)
/-- as FnOk, where no guard stands -/
structure FnG (P : Program) (w : World) (K : PySem.W.Frag) (mg : Str → Option Value) (base : Heap) (k : Nat) (f : Addr) (fd : FuncData) (ps : List Str) (sp : Sp) : Prop where
  len : ∀ vs H Q E, sp vs H Q E → vs.length = ps.length
  run : ∀ (A : Around), A.guards = some [] → ∀ (outer : List Env) (s : Shared) (H : Hp) (args : Args) (us : List Value) (vs : List V) (Q : VK) (E : XK), Room k A → Env0 P w K mg base A outer s H → BindsTo s fd args (ps.zip us) → Vals vs us → sp vs H Q E →
    codeAny (model P w) A (.call (.ref f) args) (CR CX0 outer P w H s Q E) s
section
variable {P : Program} {w : World} {K : PySem.W.Frag} {mg : Str → Option Value} {base : Heap}
theorem FnG.imp {k : Nat} {f : Addr} {fd : FuncData} {ps : List Str} {sp sp' : Sp} (F : FnG P w K mg base k f fd ps sp) (h : ∀ vs H Q E, sp' vs H Q E → sp vs H Q E) : FnG P w K mg base k f fd ps sp' :=
  ⟨fun vs H Q E q => F.len vs H Q E (h _ _ _ _ q), fun A hg outer s H args us vs Q E hr he hb hv hs => F.run A hg outer s H args us vs Q E hr he hb hv (h _ _ _ _ hs)⟩
theorem FnG.mono {j k : Nat} {f : Addr} {fd : FuncData} {ps : List Str} {sp : Sp} (F : FnG P w K mg base j f fd ps sp) (h : j ≤ k) : FnG P w K mg base k f fd ps sp :=
  ⟨F.len, fun A hg outer s H args us vs Q E hr => F.run A hg outer s H args us vs Q E (hr.mono h)⟩
end
/-! ### calls -/
section
variable {X : Cx} {k : Nat} {f : Addr} {fd : FuncData} {ps : List Str} {sp : Sp} {x : Str} {p pos : Pos} {e : Expr} {es : List Expr} {t : TA}
/-! ### the law's own call -/
section
variable {P : Program} {w : World} {K : PySem.W.Frag} {mg mb : Str → Option Value} {k : Nat} {fa a : Addr} {fd : FuncData} {x : Str} {sp : Sp} {s₁ : Shared} {vs : List Value} {ns : List Int}
end
/-! ### repr -/
end
/-! ### tuples may be read off what is owned -/
mutual
def shD : D → Bool
  | .non => true | .bl _ => true | .int _ => true | .str _ => true | .ty _ => true | .cls _ => true
  | .tup ds => shDs ds
  | _ => false
def shDs : List D → Bool
  | [] => true
  | d :: ds => shD d && shDs ds
end
section
variable {K : PySem.W.Frag} {O O' : Addr → Prop} {H : Hp}
mutual
theorem rp_sh (o : ∀ a, O' a → Lv H a) : ∀ {d : D} {v : V}, Rp K O H v d → shD d = true → Rp K O' H v d
  | .non, _, .non, _ => .non
  | .bl _, _, .bl b, _ => .bl b
  | .int _, _, .int i, _ => .int i
  | .str _, _, .str s, _ => .str s
  | .ty _, _, .ty n, _ => .ty n
  | .cls _, _, .cls C, _ => .cls C
  | .tup ds, _, .tup n h r, f => .tup (fun z => (o _ z).2 _ h) h (rps_sh o r f)
  | .lst _, _, _, f => by cases f
  | .scr _, _, _, f => by cases f
  | .ins _ _, _, _, f => by cases f
  | .dct _, _, _, f => by cases f
  | .dck _, _, _, f => by cases f
  | .sti _ _, _, _, f => by cases f
  | .exn _ _ _ _, _, _, f => by cases f
  | .adr _ _, _, _, f => by cases f
theorem rps_sh (o : ∀ a, O' a → Lv H a) : ∀ {ds : List D} {vs : List V}, RpA K O H vs ds → shDs ds = true → RpA K O' H vs ds
  | [], _, .nil, _ => .nil
  | d :: ds, _, .cons r t, f => by
    unfold shDs at f
    rw [Bool.and_eq_true] at f
    exact .cons (rp_sh o r f.1) (rps_sh o t f.2)
end
end
/-! ### is True -/
end Zg
end

section
set_option Elab.async false
set_option linter.all false
set_option maxRecDepth 100000
set_option autoImplicit false
set_option maxHeartbeats 4000000
/-! Defs that raise: what leaves them, and what catches it. -/
namespace Zx
open PyProof.Rows hiding St
open PySem PySem.Spec L2 Zk
open Evl (Ex)
/-- what a statement raises: the class, and the slots as they stand then -/
abbrev XF : Type := Gm → Option (Addr × Gm)
section
variable {K : PySem.W.Frag} {W : WX} {ts tu : TS} {x y : XF} {t : SF} {tt : TT} {c : DTF}
def XS (K : PySem.W.Frag) (W : WX) (ts : TS) (x : XF) : Prop := ∀ g r, x g = some r → ∀ H0 Oc pins ow σ H, Reps K H0 Oc pins ow σ H g → (∀ ow' σ' H', Reps K H0 Oc pins ow' σ' H' r.2 → W (.ref r.1) none σ' H') → ∀ De : Ends, ts De σ H
def xNo : XF := fun _ => none
theorem sr_neverX : SR K ts sNever := fun g out h => by cases h
theorem xs_no : XS K W ts xNo := fun g r h => by cases h
def xSeq (t : SF) (x y : XF) : XF := fun g => match x g with
  | some r => some r
  | none => match t g with
    | some (.nx g1) => y g1
    | _ => none
theorem xs_seq (h1 : XS K W ts x) (hs : SR K ts t) (h2 : XS K W tu y) : XS K W (tSeq ts tu) (xSeq t x y) := fun g r h H0 Oc pins ow σ H R q De => by
  unfold xSeq at h
  split at h
  · rename_i r' e
    cases h
    exact h1 g r e H0 Oc pins ow σ H R q _
  · split at h
    · rename_i g1 e
      exact hs g _ e H0 Oc pins ow σ H R _ fun ow1 σ1 H1 R1 => h2 g1 r h H0 Oc pins ow1 σ1 H1 R1 q De
    · cases h
def xIf (c : DTF) (x y : XF) : XF := fun g => match c g with
  | some true => x g
  | some false => y g
  | none => none
theorem xs_if (hc : TR K tt c) (h1 : XS K W ts x) (h2 : XS K W tu y) : XS K W (tIfS tt ts tu) (xIf c x y) := fun g r h H0 Oc pins ow σ H R q De => by
  unfold xIf at h
  split at h
  · rename_i e
    exact hc g _ e H0 Oc pins ow σ H R _ fun H1 e1 => by rw [if_pos rfl]; exact h1 g r h H0 Oc pins ow σ H1 (R.grow e1) q De
  · rename_i e
    exact hc g _ e H0 Oc pins ow σ H R _ fun H1 e1 => by rw [if_neg (by decide)]; exact h2 g r h H0 Oc pins ow σ H1 (R.grow e1) q De
  · cases h
end
/-! ### X() -/
section
variable {X : Cx} {C : Addr} {bmB : List Value} {B newId initId : String} {st : Stmt} {t : TS}
theorem ps_nox (h : PS X.nox st t) : PS X st t := ⟨fun pins s σ H D I hw =>
  wpAny_mono (h.run pins s σ H D (I.wish _) hw) (fun _ _ q => q.unwish) fun _ _ z => False.elim z⟩
end
/-! ### a def that raises -/
def spX (K : PySem.W.Frag) (n : Nat) (xg : List D → Option Addr) : Sp := fun vs H _ E => ∃ (Oc : Addr → Prop) (ds : List D) (c : Addr), vs.length = n ∧ (∀ a, Oc a → Lv H a) ∧ RpA K Oc H vs ds ∧ xg ds = some c ∧ ∀ H', Ex H H' → E (.ref c) none H'
def runX (m : Nat) (x : XF) : List D → Option Addr := fun ds => (x (ds.map (fun d => some (.v d)) ++ List.replicate m none)).map (·.1)
section
variable {P : Program} {w : World} {K : PySem.W.Frag} {mg : Str → Option Value} {base : Heap}
end
/-! ### a call that raises, within a try -/
section
variable {X : Cx} {CX : CXT} {k : Nat} {f : Addr} {fd : FuncData} {ps ks : List Str} {sp : Sp} {E : St → XK} {x : Str} {p pos : Pos} {e : Expr} {es : List Expr} {kws : List Keyword} {ta tb : TA}
variable {g : List Value → List Value → List Value} {gV : List V → List V → List V}
/-- an expression that raises -/
def XE (K : PySem.W.Frag) (W : WX) (te : TE) (x : XF) : Prop := ∀ g r, x g = some r → ∀ H0 Oc pins ow σ H, Reps K H0 Oc pins ow σ H g → (∀ ow' σ' H', Reps K H0 Oc pins ow' σ' H' r.2 → W (.ref r.1) none σ' H') → ∀ Q : VK, te σ H Q
end
section
variable {K : PySem.W.Frag} {W : WX} {ta tb : TA} {a b : DAF} {te : TE} {x : XF}
theorem xs_ret (h : XE K W te x) : XS K W (tRet te) x := fun g r e H0 Oc pins ow σ H R q De => h g r e H0 Oc pins ow σ H R q _
end
/-! ### the suite: slot i holds the exception at a -/
def gS (i : Nat) (a : Addr) (ts : TS) : TS := fun De σ H => σ[i]? = some (some (.ref a)) → ts De σ H
section
variable {i : Nat} {a : Addr} {σ : St} {te : TE} {tt : TT} {ts : TS}
end
section
variable {K : PySem.W.Frag} {i : Nat} {a : Addr} {te tf : TE} {tt tu : TT} {ts tv : TS} {d d2 : DF} {t u : DTF} {s v : SF}
end
/-! ### isinstance(e, C), isinstance(e, (A, B)) -/
section
variable {K : PySem.W.Frag} {i : Nat} {a D : Addr} {c : V} {cv : Value} {b : Bool}
end
/-! ### try -/
section
variable {K : PySem.W.Frag} {i : Nat} {c : Value} {x : XF} {hd : SF} {tb : WX → TS} {tsD : Addr → Addr → TS} {Wout : WX}
def tsE (K : PySem.W.Frag) (tsD : Addr → Addr → TS) : Addr → Value → Option Addr → TS := fun a cls d De σ H => ∃ D, cls = .ref D ∧ d = none ∧ L2.ExcC K D ∧ tsD a D De σ H
theorem pss_exc {X : Cx} {st : List Stmt} {a : Addr} {oe : Obj} {cls : Value} {d : Option Addr} (hz : Zc cls d oe) (h : ∀ D, Zc (.ref D) none oe → L2.ExcC K D → PSs X st (tsD a D)) : PSs X st (tsE K tsD a cls d) := by
  constructor
  rintro pins s σ H De I ⟨D, rfl, rfl, e, w⟩
  exact (h D hz e).run pins s σ H De I w
def sTry (D : Addr) (i : Nat) (x : XF) (hd : SF) : SF := fun g => (x g).bind fun r => if r.1 = D then (match r.2[i]?, hd r.2 with
  | some none, some (.rt w) => some (.rt w)
  | _, _ => none) else none
theorem reps_slot {H0 H : Hp} {Oc : Addr → Prop} {pins : Pn} {ow : OW} {σ : St} {g : Gm} {v : Option V} (R : Reps K H0 Oc pins ow σ H g) (h : g[i]? = some none) : Reps K H0 Oc pins ow (σ.set i v) H g where
  len := by rw [List.length_set]; exact R.len
  ex := R.ex
  oc := R.oc
  fr := R.fr
  inj := R.inj
  is := R.is
  val := fun j d e => by
    obtain ⟨u, h1, h2⟩ := R.val j d e
    have n : i ≠ j := fun z => by subst z; rw [h] at e; cases e
    exact ⟨u, by rw [List.getElem?_set_ne n]; exact h1, h2⟩
  own := fun j d e => by
    obtain ⟨b, h1, h2, h3⟩ := R.own j d e
    have n : i ≠ j := fun z => by subst z; rw [h] at e; cases e
    exact ⟨b, h1, by rw [List.getElem?_set_ne n]; exact h2, h3⟩
  pin := R.pin
  slf := R.slf
theorem sr_try {D : Addr} (hx : ∀ W, XS K W (tb W) x) (he : L2.ExcC K D) (hm : PySem.W.exmOne K (.ref D) c = some true) (hh : ∀ a, SR K (gS i a (tsD a D)) hd) :
    SR K (fun De σ H => tb (wAs K c i (tsE K tsD) Wout De) De σ H) (sTry D i x hd) := fun g out e H0 Oc pins ow σ H R De q => by
  unfold sTry at e
  cases ex : x g with
  | none => rw [ex] at e; cases e
  | some r =>
    rw [ex, Option.bind_some] at e
    split at e
    · rename_i hr
      split at e
      · rename_i w es ew
        cases e
        refine hx _ g r ex H0 Oc pins ow σ H R (fun ow' σ' H' R' => ?_) De
        rw [hr]
        refine ⟨true, hm, fun _ a ha => ⟨D, rfl, rfl, he, ?_⟩, fun z => by cases z⟩
        have hl : i < σ'.length := by
          rw [R'.len]
          refine Nat.lt_of_not_le fun z => ?_
          rw [List.getElem?_eq_none z] at es
          cases es
        refine hh a r.2 _ ew H0 Oc pins ow' _ H' (reps_slot R' es) _ ?_ (List.getElem?_set_self hl)
        cases w with
        | v d => exact q
        | o d => exact q
      · cases e
    · cases e
end
end Zx
end

section
set_option Elab.async false
set_option linter.all false
set_option maxRecDepth 100000
set_option autoImplicit false
set_option maxHeartbeats 4000000
/-! sorted(a list of pairs of ints), any number of them. -/
namespace Zv
open PyProof.Rows hiding St
open PySem PySem.Spec L2 Zk
open Evl (Ex)
abbrev Pr := Int × Int
/-- not behind -/
def LexLe (p q : Pr) : Prop := p.1 < q.1 ∨ (p.1 = q.1 ∧ p.2 ≤ q.2)
instance (p q : Pr) : Decidable (LexLe p q) := by unfold LexLe; infer_instance
/-- a pair and where it lies -/
abbrev At := Addr × Pr
def adr : Value → Addr
  | .ref t => t
  | _ => 0
section
variable {X : Cx}
end
/-! ### the same on data -/
section
variable {K : PySem.W.Frag} {O : Addr → Prop} {H : Hp}
end
end Zv
end

section
set_option Elab.async false
set_option linter.all false
set_option maxRecDepth 100000
set_option autoImplicit false
set_option maxHeartbeats 2000000
/-! match x: case (tag, a, b): .. -/
namespace Zm
open PySem L2 Zk PyProof.Rows
open Evl (Ex)
section
variable {X : Cx} {pins : List (Addr × Obj)} {σ : L2.St} {H : Hp} {s : Shared}
/-- plain captures, into slots -/
inductive CapsOk (X : Cx) : List Pattern → List Nat → Prop
  | nil : CapsOk X [] []
  | cons {x : Str} {p : Pos} {j : Nat} {ps : List Pattern} {js : List Nat} (hj : X.N[j]? = some x) (hl : X.env.scope.names.lookup x = some .local) (h : CapsOk X ps js) : CapsOk X (.MatchAs none (some x) p :: ps) (j :: js)
theorem CapsOk.len : ∀ {ps : List Pattern} {js : List Nat}, CapsOk X ps js → ps.length = js.length
  | _, _, .nil => rfl
  | _, _, .cons _ _ h => congrArg (· + 1) h.len
/-- the cases, each with its tag, its slots and its body's reading -/
inductive PMs (X : Cx) : List MatchCase → List (Str × List Nat × TS) → Prop
  | nil : PMs X [] []
  | cons {tag : Str} {kk : Nat} {pp p1 pos : Pos} {caps : List Pattern} {js : List Nat} {body : List Stmt} {ts : TS} {rest : List MatchCase} {cs : List (Str × List Nat × TS)}
    (ck : CapsOk X caps js) (hb : PSs X body ts) (h : PMs X rest cs) : PMs X (⟨.MatchSequence (.MatchValue (.Constant (.str tag) kk pp) p1 :: caps) pos, none, body⟩ :: rest) ((tag, js, ts) :: cs)
end
/-! ### the same on data -/
section
variable {K : PySem.W.Frag}
abbrev Cse := Str × List Nat × SF
inductive SRs (K : PySem.W.Frag) : List (Str × List Nat × TS) → List Cse → Prop
  | nil : SRs K [] []
  | cons {tag : Str} {js : List Nat} {ts : TS} {s : SF} {cs : List (Str × List Nat × TS)} {ds : List Cse} (h : SR K ts s) (r : SRs K cs ds) : SRs K ((tag, js, ts) :: cs) ((tag, js, s) :: ds)
/-! step by step -/
end
end Zm
end

section
set_option Elab.async false
set_option linter.all false
set_option maxRecDepth 100000
set_option autoImplicit false
set_option maxHeartbeats 2000000
/-! Tuples joined and cut. -/
namespace Zm
open PySem L2 Zk
open Evl (Ex)
section
variable {K : PySem.W.Frag}
def catD : D → D → Option D
  | .tup a, .tup b => if a.length + b.length ≤ 100000 then some (.tup (a ++ b)) else none
  | _, _ => none
theorem rr_cat : RR K (rCatA K) catD := fun x y d h O H v u o rx ry Q q => by
  unfold catD at h
  split at h
  · split at h
    · rename_i hl
      cases h
      cases rx with
      | tup n e r =>
        cases ry with
        | tup n' e' r' =>
          refine ⟨_, _, _, _, rfl, rfl, .of e, .of e', by rw [r.len, r'.len]; exact Evl.sz_of hl, fun z => ?_, fun _ z => ?_, fun _ _ p hp => rr_newT o q (r.app r') p hp⟩
          · subst z
            cases r
            exact q _ H (Evl.Ex.refl H) (.tup n' e' r')
          · subst z
            cases r'
            refine q _ H (Evl.Ex.refl H) (.tup n e ?_)
            rw [List.append_nil]
            exact r
    · cases h
  · cases h
end
end Zm
end

section
set_option Elab.async false
set_option linter.all false
set_option maxRecDepth 100000
set_option autoImplicit false
set_option maxHeartbeats 2000000
/-! Reckoning with the data. -/
namespace Zk
open PySem L2
/-- a loop by a word over the turn's number -/
theorem loop_inv {f : DGF} {s : SF} {ds : List D} (I : Nat → Gm → Prop) {g : Gm} (h0 : I 0 g) (hs : ∀ (i : Nat) (d : D) (g : Gm), ds[i]? = some d → I i g → ∃ g1 g2, f d g = some g1 ∧ (s g1 = some (.nx g2) ∨ s g1 = some (.ct g2)) ∧ I (i + 1) g2) :
    ∃ g', loopD f s ds g = some (.nx g') ∧ I ds.length g' := by
  induction ds generalizing I g with
  | nil => exact ⟨g, rfl, h0⟩
  | cons d ds ih =>
    obtain ⟨g1, g2, h1, h2, h3⟩ := hs 0 d g rfl h0
    obtain ⟨g', e, h4⟩ := ih (fun i g => I (i + 1) g) h3 fun i e g he hI => hs (i + 1) e g (by simpa using he) hI
    refine ⟨g', ?_, h4⟩
    unfold loopD
    rw [h1, Option.bind_some]
    rcases h2 with h2 | h2
    · rw [h2]; exact e
    · rw [h2]; exact e
end Zk
end

section
set_option Elab.async false
set_option linter.all false
set_option maxRecDepth 100000
set_option autoImplicit false
set_option maxHeartbeats 2000000
/-! The combinators, step by step. -/
namespace Zk
open PySem L2
section
variable {f f' : D → D → Option D} {h : D → Option D} {hN : List D → Option D} {a b c : DF} {r : DAF} {g : Gm} {x y d e : D} {xs ds : List D} {t u : DTF} {s q : SF} {i n : Nat} {o : Option Wd} {k : Bool} {tg : DGF}
def ap1 {α : Type} (h : D → Option α) : Option D → Option α := fun x => x.bind h
theorem ap1_some {α : Type} {h : D → Option α} : ap1 h (some x) = h x := rfl
def ap2 (f : D → D → Option D) : Option D → Option D → Option D := fun x y => x.bind fun x => y.bind fun y => f x y
theorem ap2_some : ap2 f (some x) (some y) = f x y := rfl
def apN (h : List D → Option D) : Option (List D) → Option D := fun x => x.bind h
theorem apN_some : apN hN (some xs) = hN xs := rfl
def apC : Option D → Option (List D) → Option (List D) := fun x r => x.bind fun x => r.bind fun xs => some (x :: xs)
theorem apC_some : apC (some x) (some xs) = some (x :: xs) := rfl
theorem d1_a : d1 h a g = ap1 h (a g) := rfl
theorem d2_a : d2 f a b g = ap2 f (a g) (b g) := rfl
theorem dN_a : dN hN r g = apN hN (r g) := rfl
theorem aNil_a : aNil g = some [] := rfl
theorem aCons_a : aCons a r g = apC (a g) (r g) := rfl
theorem dC_a : dC d g = some d := rfl
theorem dVar_z : dVar 0 (some (.v d) :: g) = some d := rfl
theorem dVar_s : dVar (i + 1) (o :: g) = dVar i g := rfl
theorem tDt_a {h : D → Option Bool} : tDt h a g = ap1 h (a g) := rfl
def apAnd : Option Bool → DTF → Gm → Option Bool := fun x b g => x.bind fun x => if x = true then b g else some false
theorem apAnd_t : apAnd (some true) u g = u g := rfl
theorem apAnd_f : apAnd (some false) u g = some false := rfl
def apOr : Option Bool → DTF → Gm → Option Bool := fun x b g => x.bind fun x => if x = true then some true else b g
theorem apOr_t : apOr (some true) u g = some true := rfl
theorem apOr_f : apOr (some false) u g = u g := rfl
theorem dAndT_a : dAndT t u g = apAnd (t g) u g := rfl
theorem dOrT_a : dOrT t u g = apOr (t g) u g := rfl
def apNot : Option Bool → Option Bool := fun x => x.map (!·)
theorem apNot_some : apNot (some k) = some (!k) := rfl
theorem dNotT_a : dNotT t g = apNot (t g) := rfl
def apAndV : Option D → DF → Gm → Option D := fun x b g => x.bind fun x => match x with
  | .bl true => b g
  | .bl false => some (.bl false)
  | _ => none
theorem apAndV_t : apAndV (some (.bl true)) b g = b g := rfl
theorem apAndV_f : apAndV (some (.bl false)) b g = some (.bl false) := rfl
theorem dAndV_a : dAndV a b g = apAndV (a g) b g := rfl
def apOrV : Option D → DF → Gm → Option D := fun x b g => x.bind fun x => match x with
  | .bl true => some (.bl true)
  | .bl false => b g
  | _ => none
theorem apOrV_t : apOrV (some (.bl true)) b g = some (.bl true) := rfl
theorem apOrV_f : apOrV (some (.bl false)) b g = b g := rfl
theorem dOrV_a : dOrV a b g = apOrV (a g) b g := rfl
def apIf : Option Bool → DF → DF → Gm → Option D := fun x a b g => x.bind fun x => if x = true then a g else b g
theorem apIf_t : apIf (some true) a b g = a g := rfl
theorem apIf_f : apIf (some false) a b g = b g := rfl
theorem dIf_a : dIf t a b g = apIf (t g) a b g := rfl
def apCh (f' : D → D → Option D) (y : D) (c : DF) (g : Gm) : Option D → Option D := fun z => z.bind fun z => match z with
  | .bl true => (c g).bind fun w => f' y w
  | .bl false => some (.bl false)
  | _ => none
theorem apCh_t : apCh f' y c g (some (.bl true)) = ap2 f' (some y) (c g) := rfl
theorem apCh_f : apCh f' y c g (some (.bl false)) = some (.bl false) := rfl
def apChain (f f' : D → D → Option D) : Option D → Option D → DF → Gm → Option D := fun x y c g => x.bind fun x => y.bind fun y => apCh f' y c g (f x y)
theorem apChain_some : apChain f f' (some x) (some y) c g = apCh f' y c g (f x y) := rfl
theorem dChain_a : dChain f f' a b c g = apChain f f' (a g) (b g) c g := rfl
/-! ### statements -/
def apSeq : Option Out → SF → Option Out := fun o u => o.bind fun o => sThen o u
theorem apSeq_nx {g : Gm} : apSeq (some (.nx g)) q = q g := (rfl)
theorem apSeq_rt {w : Wd} : apSeq (some (.rt w)) q = some (.rt w) := rfl
theorem apSeq_ct {g : Gm} : apSeq (some (.ct g)) q = some (.ct g) := rfl
theorem apSeq_bk {g : Gm} : apSeq (some (.bk g)) q = some (.bk g) := rfl
theorem sSeq_a : sSeq s q g = apSeq (s g) q := rfl
def apIfS : Option Bool → SF → SF → Gm → Option Out := fun x s u g => x.bind fun x => if x = true then s g else u g
theorem apIfS_t : apIfS (some true) s q g = s g := rfl
theorem apIfS_f : apIfS (some false) s q g = q g := rfl
theorem sIf_a : sIf t s q g = apIfS (t g) s q g := rfl
theorem sNext_a : sNext g = some (.nx g) := rfl
theorem sCont_a : sCont g = some (.ct g) := rfl
theorem sBreak_a : sBreak g = some (.bk g) := rfl
def apRet : Option D → Option Out := fun x => x.map fun d => .rt (.v d)
theorem apRet_some : apRet (some d) = some (.rt (.v d)) := rfl
theorem sRet_a : sRet a g = apRet (a g) := rfl
def apRetO : Option D → Option Out := fun x => x.map fun d => .rt (.o d)
theorem apRetO_some : apRetO (some d) = some (.rt (.o d)) := rfl
theorem sRetO_a : sRetO a g = apRetO (a g) := rfl
theorem sRetN_a : sRetN g = some (.rt (.v .non)) := rfl
def getO : Gm → Nat → Option D := fun g i => match g[i]? with
  | some (some (.o d)) => some d
  | _ => none
theorem getO_z : getO (some (.o d) :: g) 0 = some d := rfl
theorem getO_s : getO (o :: g) (i + 1) = getO g i := rfl
def apRetV : Option D → Option Out := fun x => x.map fun d => .rt (.o d)
theorem apRetV_some : apRetV (some d) = some (.rt (.o d)) := rfl
theorem sRetV_a : sRetV i g = apRetV (getO g i) := by
  unfold sRetV apRetV getO
  cases e : g[i]? with
  | none => rfl
  | some o =>
    cases o with
    | none => rfl
    | some w => cases w <;> rfl
def ltB : Gm → Nat → Bool := fun g i => decide (i < g.length)
theorem ltB_z : ltB (o :: g) 0 = true := rfl
theorem ltB_s : ltB (o :: g) (i + 1) = ltB g i := by
  unfold ltB
  rw [List.length_cons]
  simp
theorem okSlot_s : okSlot (o :: g) (i + 1) = ltB g i := by
  unfold okSlot ltB
  rw [List.length_cons]
  simp
def apAsg : Option D → DGF → Gm → Option Out := fun x f g => x.bind fun d => (f d g).map .nx
theorem apAsg_some : apAsg (some d) tg g = (tg d g).map .nx := rfl
theorem sAsg_a : sAsg a tg g = apAsg (a g) tg g := rfl
theorem dName_ok (h : okSlot g i = true) : dName i d g = some (g.set i (some (.v d))) := if_pos h
def apG : Option Gm → (Gm → Option Gm) → Option Gm := fun x k => x.bind k
theorem apG_some {k : Gm → Option Gm} : apG (some g) k = k g := rfl
theorem dgCons_a {m : DGFs} : dgCons tg m (d :: ds) g = apG (tg d g) (m ds) := rfl
theorem dgNil_a : dgNil [] g = some g := rfl
def apAsgO : Option D → Nat → Gm → Option Out := fun x i g => x.bind fun d => if okSlot g i = true then some (.nx (g.set i (some (.o d)))) else none
theorem apAsgO_some (h : okSlot g i = true) : apAsgO (some d) i g = some (.nx (g.set i (some (.o d)))) := if_pos h
theorem sAsgO_a : sAsgO a i g = apAsgO (a g) i g := rfl
def apApp : Option D → Option D → Nat → Gm → Option Out := fun x y i g => x.bind fun d => match y with
  | some (.lst ds) => if ds.length < 100000 then some (.nx (g.set i (some (.o (.lst (ds ++ [d])))))) else none
  | _ => none
theorem apApp_some (h : ds.length < 100000) : apApp (some d) (some (.lst ds)) i g = some (.nx (g.set i (some (.o (.lst (ds ++ [d])))))) := if_pos h
theorem sApp_a : sApp i a g = apApp (a g) (getO g i) i g := by
  unfold sApp apApp getO
  congr 1
  funext d
  cases e : g[i]? with
  | none => rfl
  | some o =>
    cases o with
    | none => rfl
    | some w =>
      cases w with
      | v d => rfl
      | o d => cases d <;> rfl
def apSetI : Option D → Option D → Option D → Nat → Gm → Option Out := fun x z y i g => x.bind fun d => z.bind fun z => match z, y with
  | .int k, some (.lst ds) => (ixN ds.length k).map fun j => .nx (g.set i (some (.o (.lst (ds.set j d)))))
  | _, _ => none
theorem apSetI_some {j : Nat} (h : j < ds.length) : apSetI (some d) (some (.int (j : Int))) (some (.lst ds)) i g = some (.nx (g.set i (some (.o (.lst (ds.set j d)))))) := by
  unfold apSetI
  simp only [Option.bind_some]
  rw [Evl.ixN_nat h] <;> rfl
theorem sSetI_a : sSetI i b a g = apSetI (a g) (b g) (getO g i) i g := by
  unfold sSetI apSetI getO
  congr 1
  funext d
  congr 1
  funext z
  cases e : g[i]? with
  | none => cases z <;> rfl
  | some o =>
    cases o with
    | none => cases z <;> rfl
    | some w =>
      cases w with
      | v d => cases z <;> rfl
      | o d => cases d <;> cases z <;> rfl
def apFor : Option (List D) → DGF → SF → Gm → Option Out := fun x f s g => x.bind fun ds => loopD f s ds g
theorem apFor_some : apFor (some ds) tg s g = loopD tg s ds g := rfl
theorem sFor_a {it : DIF} : sFor it tg s g = apFor (it g) tg s g := rfl
theorem dItems_a : dItems a g = ap1 itemsD (a g) := rfl
def apR1 : Option (List D) → Option (List D) := fun x => x.bind fun xs => match xs with
  | [.int n] => if n ≤ 1000000 ∧ -1000000 ≤ n then some (rngL 0 n.toNat) else none
  | _ => none
theorem apR1_some {n : Nat} (h : n ≤ 1000000) : apR1 (some [.int (n : Int)]) = some (rngL 0 n) := if_pos (by omega)
theorem dRng1_a : dRng1 r g = apR1 (r g) := rfl
def apR2 : Option (List D) → Option (List D) := fun x => x.bind fun xs => match xs with
  | [.int i, .int j] => if (i ≤ 1000000 ∧ -1000000 ≤ i) ∧ j ≤ 1000000 ∧ -1000000 ≤ j then some (rngL i (j - i).toNat) else none
  | _ => none
theorem apR2_some {i j : Int} (h : (i ≤ 1000000 ∧ -1000000 ≤ i) ∧ j ≤ 1000000 ∧ -1000000 ≤ j) : apR2 (some [.int i, .int j]) = some (rngL i (j - i).toNat) := if_pos h
theorem dRng2_a : dRng2 r g = apR2 (r g) := rfl
def apEn : Option (List D) → Option (List D) := fun x => x.bind fun xs => match xs with
  | [.lst ds] => some (enumL 0 ds)
  | [.tup ds] => some (enumL 0 ds)
  | _ => none
theorem apEn_some : apEn (some [.lst ds]) = some (enumL 0 ds) := rfl
theorem apEn_tup : apEn (some [.tup ds]) = some (enumL 0 ds) := rfl
theorem dEnum_a : dEnum r g = apEn (r g) := rfl
/-! ### freezing -/
theorem sFrz_a {l : List Nat} : sFrz l s g = s (frzs g l) := rfl
def frzI : Gm → Nat → Gm := fun g i => match g[i]? with
  | some (some (.o d)) => g.set i (some (.v d))
  | _ => g
theorem frzs_nil : frzs g [] = g := rfl
theorem frzs_cons {l : List Nat} : frzs g (i :: l) = frzs (frz1 g i) l := rfl
theorem frzI_o : frzI (some (.o d) :: g) 0 = some (.v d) :: g := rfl
theorem frzI_v : frzI (some (.v d) :: g) 0 = some (.v d) :: g := rfl
theorem frzI_n : frzI (none :: g) 0 = none :: g := rfl
theorem frzI_s : frzI (o :: g) (i + 1) = o :: frzI g i := by
  unfold frzI
  rw [List.getElem?_cons_succ]
  cases e : g[i]? with
  | none => rfl
  | some p =>
    cases p with
    | none => rfl
    | some w => cases w <;> rfl
theorem frz1_s : frz1 (o :: g) (i + 1) = o :: frzI g i := by
  rw [← frzI_s]
  unfold frz1 frzI
  rw [if_neg (Nat.succ_ne_zero i)] <;> rfl
theorem frzAll_nil : frzAll [] = [] := rfl
theorem frzAll_o : frzAll (some (.o d) :: g) = some (.v d) :: frzAll g := rfl
theorem frzAll_v : frzAll (some (.v d) :: g) = some (.v d) :: frzAll g := rfl
theorem frzAll_n : frzAll (none :: g) = none :: frzAll g := rfl
theorem peekT_a : peekT t g = t (frzAll g) := rfl
def apPk : Option D → Option D := fun x => match x with
  | some d => if d.flat = true then some d else none
  | none => none
theorem apPk_int {j : Int} : apPk (some (.int j)) = some (.int j) := rfl
theorem apPk_bl {j : Bool} : apPk (some (.bl j)) = some (.bl j) := rfl
theorem apPk_str {j : Str} : apPk (some (.str j)) = some (.str j) := rfl
theorem apPk_non : apPk (some .non) = some .non := rfl
theorem peekF_a : peekF a g = apPk (a (frzAll g)) := rfl
/-! ### calls -/
def apCall (n : Nat) (gf : PF) : Option (List D) → Option D := fun x => x.bind fun ds => if ds.length = n then (gf ds).map Wd.d else none
theorem dCall_a {gf : PF} : dCall n gf r g = apCall n gf (r g) := rfl
def toO : Option Wd → Option D := fun x => match x with
  | some (.o d) => some d
  | _ => none
theorem toO_o : toO (some (.o d)) = some d := rfl
def apCallO (n : Nat) (gf : PF) : Option (List D) → Option D := fun x => x.bind fun ds => if ds.length = n then toO (gf ds) else none
theorem dCallO_a {gf : PF} : dCallO n gf r g = apCallO n gf (r g) := by
  unfold dCallO apCallO toO
  rfl
def apMake (C : Addr) (n : Nat) (gf : List D → Option (List (Str × D))) : Option (List D) → Option D := fun x => x.bind fun ds => if ds.length = n then (gf ds).map (.ins C) else none
theorem dMake_a {C : Addr} {gf : List D → Option (List (Str × D))} : dMake C n gf r g = apMake C n gf (r g) := rfl
theorem Wd_v : Wd.d (.v d) = d := rfl
theorem Wd_o : Wd.d (.o d) = d := rfl
/-! ### comprehensions, slices -/
theorem dLc_eq {it : DIF} {tt : DTF} {te : DF} {vs : List Nat} {es : List D} (hf : free g vs = true) (hi : it g = some ds) (hz : ds.length ≤ 100000) (h : lcL tg tt te (wipeG g vs) ds = some es) : dLc it tg tt te vs g = some (.lst es) := by
  unfold dLc
  rw [if_pos hf, hi, Option.bind_some, if_pos hz, h] <;> rfl
def apSl : Option D → Option (Option Int) → Option (Option Int) → Option D := fun x l h => x.bind fun x => l.bind fun l => h.bind fun h => slD x l h
theorem dSl_a {lo hi : DOF} : dSl a lo hi g = apSl (a g) (lo g) (hi g) := rfl
theorem apSl_some {lo hi : Option Int} : apSl (some (.lst ds)) (some lo) (some hi) = some (.lst (cutL ds lo hi)) := rfl
theorem oNone_a : oNone g = some none := rfl
def apO : Option D → Option (Option Int) := fun x => x.bind fun x => match x with
  | .int i => some (some i)
  | _ => none
theorem oSome_a : oSome a g = apO (a g) := rfl
theorem apO_some {j : Int} : apO (some (.int j)) = some (some j) := rfl
/-! ### operators -/
variable {j k' : Int} {p p' : Str}
theorem add_ii : addD (.int j) (.int k') = some (.int (j + k')) := rfl
theorem add_ll {es : List D} (h : ds.length + es.length ≤ 100000) : addD (.lst ds) (.lst es) = some (.lst (ds ++ es)) := if_pos h
theorem sub_ii : subD (.int j) (.int k') = some (.int (j - k')) := rfl
theorem mul_ii (h : j.natAbs.log2 + k'.natAbs.log2 < 100000000) : mulD (.int j) (.int k') = some (.int (j * k')) := if_pos h
theorem log2_lt_of {m n : Nat} (h : m < 2 ^ n) (hn : 0 < n) : m.log2 < n := by
  by_cases e : m = 0
  · rw [e]; simpa using hn
  · exact (Nat.log2_lt e).mpr h
theorem mul_small (h : j.natAbs < 2 ^ 1000) (h' : k'.natAbs < 2 ^ 1000) : mulD (.int j) (.int k') = some (.int (j * k')) := mul_ii (by
  have h1 := log2_lt_of h (by decide)
  have h2 := log2_lt_of h' (by decide)
  omega)
theorem fdiv_ii (h : 0 < k') (h' : k'.natAbs < 2 ^ 8000) : fdivD (.int j) (.int k') = some (.int (j / k')) := if_pos ⟨h, by
  have := log2_lt_of h' (by decide)
  omega⟩
theorem mod_ii (h : 0 < k') : modD (.int j) (.int k') = some (.int (j % k')) := if_pos h
theorem lt_ii : ltD (.int j) (.int k') = some (.bl (decide (j < k'))) := rfl
theorem le_ii : leD (.int j) (.int k') = some (.bl (decide (j ≤ k'))) := rfl
theorem gt_ii : gtD (.int j) (.int k') = some (.bl (decide (k' < j))) := rfl
theorem ge_ii : geD (.int j) (.int k') = some (.bl (decide (k' ≤ j))) := rfl
theorem eq_ii : eqD (.int j) (.int k') = some (.bl (j == k')) := rfl
theorem ne_ii : neD (.int j) (.int k') = some (.bl (!(j == k'))) := rfl
theorem neg_i : negD (.int j) = some (.int (-j)) := rfl
theorem not_b : notD (.bl k) = some (.bl (!k)) := rfl
theorem bl_b : blD (.bl k) = some k := rfl
theorem tru_b : truD (.bl k) = some k := rfl
theorem tru_i : truD (.int j) = some (j != 0) := rfl
theorem tru_l : truD (.lst ds) = some (!ds.isEmpty) := rfl
theorem tru_t : truD (.tup ds) = some (!ds.isEmpty) := rfl
theorem tru_n : truD .non = some false := rfl
theorem len_l : lenD [.lst ds] = some (.int ds.length) := rfl
theorem len_t : lenD [.tup ds] = some (.int ds.length) := rfl
theorem len_scr {ns : List Int} : lenD [.scr ns] = some (.int ns.length) := rfl
theorem abs_i : absD [.int j] = some (.int (if j < 0 then -j else j)) := rfl
theorem int_i : intD [.int j] = some (.int j) := rfl
theorem list_l : listD [.lst ds] = some (.lst ds) := rfl
theorem list_t : listD [.tup ds] = some (.lst ds) := rfl
theorem tuple_l : tupleD [.lst ds] = some (.tup ds) := rfl
theorem tuple_t : tupleD [.tup ds] = some (.tup ds) := rfl
theorem min_ii : minD [.int j, .int k'] = some (.int (if k' < j then k' else j)) := rfl
theorem max_ii : maxD [.int j, .int k'] = some (.int (if k' > j then k' else j)) := rfl
theorem mkLst_some (h : ds.length ≤ 100000) : mkLst ds = some (.lst ds) := if_pos h
theorem mkTup_some (h : ds.length ≤ 100000) : mkTup ds = some (.tup ds) := if_pos h
theorem rev_l : revD (.lst ds) = some (.lst ds.reverse) := rfl
theorem items_l : itemsD (.lst ds) = some ds := rfl
theorem items_t : itemsD (.tup ds) = some ds := rfl
theorem ix_l {m : Nat} (h : ds[m]? = some d) : ixD (.lst ds) (.int (m : Int)) = some d := atI_nat h
theorem ix_t {m : Nat} (h : ds[m]? = some d) : ixD (.tup ds) (.int (m : Int)) = some d := atI_nat h
theorem ix_scr {ns : List Int} {m : Nat} (h : ns[m]? = some j) : ixD (.scr ns) (.int (m : Int)) = some (.int j) := by
  show (atI ns (m : Int)).map D.int = _
  rw [atI_nat h] <;> rfl
theorem iL_get {ns : List Int} {m : Nat} : (iL ns)[m]? = (ns[m]?).map D.int := by unfold iL; rw [List.getElem?_map]
theorem iL_len {ns : List Int} : (iL ns).length = ns.length := by unfold iL; rw [List.length_map]
theorem iL_app {ns ms : List Int} : iL ns ++ iL ms = iL (ns ++ ms) := by unfold iL; rw [List.map_append]
theorem iL_one : [D.int j] = iL [j] := rfl
theorem rng_get {lo : Int} {n i : Nat} (h : (rngL lo n)[i]? = some d) : i < n ∧ d = .int (lo + i) := by
  unfold rngL at h
  rw [List.getElem?_map] at h
  have hi : i < n := by
    cases z : (List.range n)[i]? with
    | none => rw [z] at h; cases h
    | some j => have := (List.getElem?_eq_some_iff.mp z).1; rw [List.length_range] at this; exact this
  rw [List.getElem?_range hi] at h
  cases h
  exact ⟨hi, rfl⟩
theorem rng_len {lo : Int} {n : Nat} : (rngL lo n).length = n := by unfold rngL; rw [List.length_map, List.length_range]
def outW : Option Out → Option Wd := fun x => match x with
  | some (.rt w) => some w
  | some (.nx _) => some (.v .non)
  | _ => none
theorem run_a {m : Nat} {t : SF} {ds : List D} : runG m t ds = outW (t (ds.map (fun d => some (.v d)) ++ List.replicate m none)) := rfl
theorem outW_rt {w : Wd} : outW (some (.rt w)) = some w := rfl
theorem outW_nx : outW (some (.nx g)) = some (.v .non) := rfl
end
end Zk
end

section
set_option Elab.async false
set_option linter.all false
set_option maxRecDepth 100000
set_option autoImplicit false
set_option maxHeartbeats 2000000
/-! Sets of ints; dicts whose keys are ints or texts. -/
namespace Zn
open PySem L2 Zk
open Evl (Ex)
variable {K : PySem.W.Frag}
/-! ### dicts -/
def getK (kvs : List (Key × D)) (k : Key) : Option D := (kvs.find? fun kv => decide (kv.1 = k)).map (·.2)
def setK (kvs : List (Key × D)) (k : Key) (d : D) : List (Key × D) :=
  if (kvs.any fun kv => decide (kv.1 = k)) = true then kvs.map (fun kv => if kv.1 = k then (kv.1, d) else kv) else kvs ++ [(k, d)]
def RpD (K : PySem.W.Frag) (O : Addr → Prop) (H : Hp) (xs : List (Key × V)) (kvs : List (Key × D)) : Prop := xs.map (·.1) = kvs.map (·.1) ∧ RpA K O H (xs.map (·.2)) (kvs.map (·.2))
theorem RpD.nil {O : Addr → Prop} {H : Hp} : RpD K O H [] [] := ⟨rfl, .nil⟩
theorem RpD.inv {O : Addr → Prop} {H : Hp} {x : Key × V} {xs : List (Key × V)} {kvs : List (Key × D)} (r : RpD K O H (x :: xs) kvs) : ∃ d kvs', kvs = (x.1, d) :: kvs' ∧ Rp K O H x.2 d ∧ RpD K O H xs kvs' := by
  obtain ⟨e, r⟩ := r
  cases kvs with
  | nil => cases e
  | cons kv kvs =>
    rw [List.map_cons, List.map_cons] at e r
    have e1 := (List.cons.inj e).1
    cases r with
    | cons a b => exact ⟨kv.2, kvs, by rw [e1], a, (List.cons.inj e).2, b⟩
theorem RpD.get {O : Addr → Prop} {H : Hp} : ∀ {xs : List (Key × V)} {kvs : List (Key × D)} (k : Key), RpD K O H xs kvs →
    (getK kvs k = none ∧ valV xs k = none) ∨ ∃ d v, getK kvs k = some d ∧ valV xs k = some v ∧ Rp K O H v d
  | [], kvs, k, r => by
    obtain ⟨e, _⟩ := r
    cases kvs with
    | nil => exact .inl ⟨rfl, rfl⟩
    | cons a b => cases e
  | x :: xs, kvs, k, r => by
    obtain ⟨d, kvs', rfl, h1, h2⟩ := r.inv
    by_cases hk : x.1 = k
    · refine .inr ⟨d, x.2, ?_, valV_pos hk, h1⟩
      unfold getK
      rw [List.find?_cons, decide_eq_true hk]
      rfl
    · have ih := RpD.get k h2
      rw [valV_neg hk]
      have e : getK ((x.1, d) :: kvs') k = getK kvs' k := by
        unfold getK
        rw [List.find?_cons, decide_eq_false hk]
      rw [e]
      exact ih
theorem RpD.set {O : Addr → Prop} {H : Hp} {xs : List (Key × V)} {kvs : List (Key × D)} (k : Key) {v : V} {d : D} (r : RpD K O H xs kvs) (hv : Rp K O H v d) : RpD K O H (putK xs k v) (setK kvs k d) := by
  have ha : (xs.any fun kv => decide (kv.1 = k)) = (kvs.any fun kv => decide (kv.1 = k)) := by
    have e1 : ∀ l : List (Key × V), (l.any fun kv => decide (kv.1 = k)) = ((l.map (·.1)).any fun z => decide (z = k)) := fun l => by rw [List.any_map]; rfl
    have e2 : ∀ l : List (Key × D), (l.any fun kv => decide (kv.1 = k)) = ((l.map (·.1)).any fun z => decide (z = k)) := fun l => by rw [List.any_map]; rfl
    rw [e1, e2, r.1]
  unfold putK setK
  rw [ha]
  split
  · have go : ∀ (xs : List (Key × V)) (kvs : List (Key × D)), RpD K O H xs kvs → RpD K O H (xs.map fun kv => if kv.1 = k then (kv.1, v) else kv) (kvs.map fun kv => if kv.1 = k then (kv.1, d) else kv) := by
      intro xs
      induction xs with
      | nil =>
        intro kvs r
        cases kvs with
        | nil => exact .nil
        | cons a b => cases r.1
      | cons x xs ih =>
        intro kvs r
        obtain ⟨d', kvs', rfl, h1, h2⟩ := r.inv
        have ih := ih kvs' h2
        rw [List.map_cons, List.map_cons]
        by_cases hk : x.1 = k
        · rw [if_pos hk, if_pos hk]
          exact ⟨by rw [List.map_cons, List.map_cons, ih.1], .cons hv ih.2⟩
        · rw [if_neg hk, if_neg hk]
          exact ⟨by rw [List.map_cons, List.map_cons, ih.1], .cons h1 ih.2⟩
    exact go xs kvs r
  · exact ⟨by rw [List.map_append, List.map_append, r.1]; rfl, by rw [List.map_append, List.map_append]; exact r.2.app (.one hv)⟩
theorem RpD.kp {O O' : Addr → Prop} {H H' : Hp} (k : Kp O H O' H') {xs : List (Key × V)} {kvs : List (Key × D)} (r : RpD K O H xs kvs) : RpD K O' H' xs kvs := ⟨r.1, r.2.kp k⟩
theorem RpD.len {O : Addr → Prop} {H : Hp} {xs : List (Key × V)} {kvs : List (Key × D)} (r : RpD K O H xs kvs) : xs.length = kvs.length := by
  have := congrArg List.length r.1
  rw [List.length_map, List.length_map] at this
  exact this
section
variable {tk tx tv : TE} {k x a : DF} {i : Nat}
end
/-! ### sets of ints -/
section
variable {w : World} {tk : TE} {k : DF} {i : Nat}
end
/-! ### steps -/
section
variable {g : Gm} {d e : D} {i : Nat} {kvs : List (Key × D)} {o : Option Wd} {a k : DF} {j : Int} {w : World} {ns : List Int}
end
end Zn
end

section
set_option Elab.async false
set_option linter.all false
set_option maxRecDepth 100000
set_option autoImplicit false
set_option maxHeartbeats 4000000
/-! Errors with a field: raised in loops and behind calls, caught, their field read. -/
namespace Zr
open PyProof.Rows hiding St
open PySem PySem.Spec L2 Zk
open Evl (Ex)
/-- what is raised: the class, its fields; the slots as they stand then -/
abbrev XV : Type := Addr × List (Str × D)
abbrev XF : Type := Gm → Option (XV × Gm)
section
variable {K : PySem.W.Frag} {W : WX} {ts tu : TS} {x y : XF} {t : SF} {tt : TT} {c : DTF}
def XS (K : PySem.W.Frag) (W : WX) (ts : TS) (x : XF) : Prop := ∀ g r, x g = some r → ∀ H0 Oc pins ow σ H, Reps K H0 Oc pins ow σ H g →
  (∀ ow' σ' H' dd fs, Reps K H0 Oc pins ow' σ' H' r.2 → ¬ OO Oc ow' dd → H0 dd = none → H' dd = some (.xd fs) → RpF K (OO Oc ow') H' fs r.1.2 → W (.ref r.1.1) (some dd) σ' H') → ∀ De : Ends, ts De σ H
def xNo : XF := fun _ => none
theorem xs_no : XS K W ts xNo := fun g r h => by cases h
def xSeq (t : SF) (x y : XF) : XF := fun g => match x g with
  | some r => some r
  | none => match t g with
    | some (.nx g1) => y g1
    | _ => none
theorem xs_seq (h1 : XS K W ts x) (hs : SR K ts t) (h2 : XS K W tu y) : XS K W (tSeq ts tu) (xSeq t x y) := fun g r h H0 Oc pins ow σ H R q De => by
  unfold xSeq at h
  split at h
  · rename_i r' e
    cases h
    exact h1 g r e H0 Oc pins ow σ H R q _
  · split at h
    · rename_i g1 e
      exact hs g _ e H0 Oc pins ow σ H R _ fun ow1 σ1 H1 R1 => h2 g1 r h H0 Oc pins ow1 σ1 H1 R1 q De
    · cases h
def xIf (c : DTF) (x y : XF) : XF := fun g => match c g with
  | some true => x g
  | some false => y g
  | none => none
theorem xs_if (hc : TR K tt c) (h1 : XS K W ts x) (h2 : XS K W tu y) : XS K W (tIfS tt ts tu) (xIf c x y) := fun g r h H0 Oc pins ow σ H R q De => by
  unfold xIf at h
  split at h
  · rename_i e
    exact hc g _ e H0 Oc pins ow σ H R _ fun H1 e1 => by rw [if_pos rfl]; exact h1 g r h H0 Oc pins ow σ H1 (R.grow e1) q De
  · rename_i e
    exact hc g _ e H0 Oc pins ow σ H R _ fun H1 e1 => by rw [if_neg (by decide)]; exact h2 g r h H0 Oc pins ow σ H1 (R.grow e1) q De
  · cases h
end
/-! ### raise C(e): C keeps e in its one field -/
def spXI (C : Addr) (fld : Str) : Sp := fun vs H Q _ => ∃ (a : Addr) (v : V), vs = [.ref a, v] ∧ H a = some (exo a C none) ∧ ∀ dx, H dx = none → dx ≠ a → Q .non (upd (upd H dx (exd dx [(fld, v)])) a (exo a C (some dx)))
section
variable {P : Program} {w : World} {K : PySem.W.Frag} {mg : Str → Option Value} {base : Heap}
theorem fnXI {qual x fld : Str} {st : Stmt} {f C : Addr} {fd : FuncData} {k : Nat} (F : Fun K "__init__" qual st f fd) (S : FnScope ["self", x] ["self", x] (defScope st)) (T : OexC K C) (hno : PySem.W.findIn K (.ref C) fld = some none)
    (hb : ∀ (cdv : Value) (A : Around) (outer : List Env) (s : Shared) (H : Hp) (E : XK), Room k (A.deeper (envOfC qual (defScope st) s.heap.objs.size f cdv)) → PSs (cxOf CX0 P w K mg base ["self", x] qual (defScope st) f cdv A outer s H E).nox (defBody st) (tOst K fld (tVar 0) (tVar 1))) :
    FnOk P w K mg base CX0 (k + 1) f fd ["self", x] (spXI C fld) := by
  refine F.ok S (fun vs H Q E h => ?_) (fun cdv A outer s H vs Q E hr h => ?_)
  · obtain ⟨_, _, rfl, _⟩ := h
    rfl
  · obtain ⟨a, v, rfl, ha, q⟩ := h
    refine ⟨_, hb cdv A outer s H E hr, ?_⟩
    exact ⟨v, rfl, .ref a, rfl, a, C, rfl, T, hno, .inl ⟨ha, fun dx h1 h2 => q dx h1 h2⟩⟩
end
section
variable {K : PySem.W.Frag} {W : WX} {te : TE} {a : DF} {C : Addr} {fld : Str}
def xRaise1 (C : Addr) (fld : Str) (a : DF) : XF := fun g => (a g).map fun d => ((C, [(fld, d)]), g)
theorem xs_raise1 (ha : ER K te a) : XS K W (fun _ σ H => tMkO C (spXI C fld) [] (tCons te tNil) σ H fun cls d H' => W cls d σ H') (xRaise1 C fld a) := fun g r h H0 Oc pins ow σ H R q De => by
  unfold xRaise1 at h
  cases ea : a g with
  | none => rw [ea] at h; cases h
  | some d =>
    rw [ea] at h
    cases h
    refine ha g d ea H0 Oc pins ow σ H R _ fun u H1 e1 r1 => ?_
    refine ⟨by show 1 ≤ 1000; decide, fun p hp => ⟨p, u, rfl, upd_same, fun dx h1 h2 => ?_⟩⟩
    have hd1 : H1 dx = none := by rw [← h1]; exact (upd_ne h2).symm
    have R1 := R.grow e1
    refine ⟨rfl, dx, [(fld, u)], upd_same, by rw [upd_ne h2]; exact upd_same, hd1, ?_⟩
    have ex : Ex H1 (upd (del (upd (upd (upd H1 p (exo p C none)) dx (exd dx [(fld, u)])) p (exo p C (some dx))) p) dx (.xd [(fld, u)])) := fun b o e => by
      have nb : b ≠ dx := fun z => by rw [z, hd1] at e; cases e
      have np : b ≠ p := fun z => by rw [z, hp] at e; cases e
      rw [upd_ne nb, del_ne np, upd_ne np, upd_ne nb, upd_ne np]
      exact e
    exact q ow σ _ dx _ (R1.grow ex) (R1.new hd1) (Evl.fresh_back R1.ex hd1) upd_same (.cons (r1.ex ex) .nil)
end
/-! ### a def that raises -/
def spX (K : PySem.W.Frag) (n : Nat) (xg : List D → Option XV) : Sp := fun vs H _ E => ∃ (Oc : Addr → Prop) (ds : List D) (c : XV), vs.length = n ∧ (∀ a, Oc a → Lv H a) ∧ RpA K Oc H vs ds ∧ xg ds = some c ∧ ∀ H' dd fs, Ex H H' → H dd = none → H' dd = some (.xd fs) → RpF K Oc H' fs c.2 → E (.ref c.1) (some dd) H'
def runX (m : Nat) (x : XF) : List D → Option XV := fun ds => (x (ds.map (fun d => some (.v d)) ++ List.replicate m none)).map (·.1)
section
variable {P : Program} {w : World} {K : PySem.W.Frag} {mg : Str → Option Value} {base : Heap}
theorem okCX {CX : CXT} {k : Nat} {f : Addr} {fd : FuncData} {ps : List Str} {sp : Sp} (F : FnOk P w K mg base CX0 k f fd ps sp) : FnOk P w K mg base CX k f fd ps sp :=
  ⟨F.len, fun A outer s H args us vs Q E hr he hb hv hs => codeAny_mono (F.run A outer s H args us vs Q E hr he hb hv hs) fun r s' h => by
    cases r with
    | error e => exact h.elim
    | ok fl => cases fl <;> exact h⟩
def spO (sp sp' : Sp) : Sp := fun vs H Q E => sp vs H Q E ∨ sp' vs H Q E
theorem okOr {CX : CXT} {k : Nat} {f : Addr} {fd : FuncData} {ps : List Str} {sp sp' : Sp} (F : FnOk P w K mg base CX k f fd ps sp) (F' : FnOk P w K mg base CX k f fd ps sp') : FnOk P w K mg base CX k f fd ps (spO sp sp') :=
  ⟨fun vs H Q E h => h.elim (F.len _ _ _ _) (F'.len _ _ _ _), fun A outer s H args us vs Q E hr he hb hv hs => hs.elim (F.run A outer s H args us vs Q E hr he hb hv) (F'.run A outer s H args us vs Q E hr he hb hv)⟩
end
/-! ### expressions that raise -/
section
variable {K : PySem.W.Frag} {W : WX} {ta tb : TA} {a b : DAF} {te : TE} {x : XF} {d : DF}
def XE (K : PySem.W.Frag) (W : WX) (te : TE) (x : XF) : Prop := ∀ g r, x g = some r → ∀ H0 Oc pins ow σ H, Reps K H0 Oc pins ow σ H g →
  (∀ ow' σ' H' dd fs, Reps K H0 Oc pins ow' σ' H' r.2 → ¬ OO Oc ow' dd → H0 dd = none → H' dd = some (.xd fs) → RpF K (OO Oc ow') H' fs r.1.2 → W (.ref r.1.1) (some dd) σ' H') → ∀ Q : VK, te σ H Q
def XA (K : PySem.W.Frag) (W : WX) (ta : TA) (x : XF) : Prop := ∀ g r, x g = some r → ∀ H0 Oc pins ow σ H, Reps K H0 Oc pins ow σ H g →
  (∀ ow' σ' H' dd fs, Reps K H0 Oc pins ow' σ' H' r.2 → ¬ OO Oc ow' dd → H0 dd = none → H' dd = some (.xd fs) → RpF K (OO Oc ow') H' fs r.1.2 → W (.ref r.1.1) (some dd) σ' H') → ∀ Q : List V → Hp → Prop, ta σ H Q
theorem xs_ret (h : XE K W te x) : XS K W (tRet te) x := fun g r e H0 Oc pins ow σ H R q De => h g r e H0 Oc pins ow σ H R q _
theorem xa_head (h : XE K W te x) : XA K W (tCons te ta) x := fun g r e H0 Oc pins ow σ H R q Q => h g r e H0 Oc pins ow σ H R q _
def xTail (d : DF) (x : XF) : XF := fun g => (d g).bind fun _ => x g
theorem xa_tail (hd : ER K te d) (h : XA K W ta x) : XA K W (tCons te ta) (xTail d x) := fun g r e H0 Oc pins ow σ H R q Q => by
  unfold xTail at e
  cases ed : d g with
  | none => rw [ed] at e; cases e
  | some z =>
    rw [ed, Option.bind_some] at e
    exact hd g z ed H0 Oc pins ow σ H R _ fun v H1 e1 r1 => h g r e H0 Oc pins ow σ H1 (R.grow e1) q _
theorem xe_tup (h : XA K W ta x) : XE K W (tTup ta) x := fun g r e H0 Oc pins ow σ H R q Q => h g r e H0 Oc pins ow σ H R q _
def xCall (n : Nat) (xg : List D → Option XV) (a : DAF) : XF := fun g => (a g).bind fun ds => if ds.length = n then (xg ds).map fun c => (c, g) else none
theorem sp_call {n : Nat} {xg : List D → Option XV} {g : Gm} {ds : List D} {c : XV} {vs : List V} {H0 : Hp} {Oc : Addr → Prop} {pins : Pn} {ow : OW} {σ : L2.St} {H1 : Hp} {Q : VK} (R1 : Reps K H0 Oc pins ow σ H1 g) (r1 : RpA K (OO Oc ow) H1 vs ds) (hn : ds.length = n) (ew : xg ds = some c)
    (q : ∀ ow' σ' H' dd fs, Reps K H0 Oc pins ow' σ' H' g → ¬ OO Oc ow' dd → H0 dd = none → H' dd = some (.xd fs) → RpF K (OO Oc ow') H' fs c.2 → W (.ref c.1) (some dd) σ' H') : spX K n xg vs H1 Q (WE W σ) :=
  ⟨OO Oc ow, ds, c, by rw [r1.len]; exact hn, R1.oo, r1, ew, fun H3 dd fs e3 h1 h2 rf => q ow σ H3 dd fs (R1.grow e3) (R1.new h1) (Evl.fresh_back R1.ex h1) h2 rf⟩
/-- a call that may raise or answer -/
theorem xe_callO {n : Nat} {gf : PF} {xg : List D → Option XV} (ha : AR K ta a) : XE K W (tCallS (spO (spG K n gf) (spX K n xg)) (WE W) ta) (xCall n xg a) := fun g r h H0 Oc pins ow σ H R q Q => by
  unfold xCall at h
  cases ea : a g with
  | none => rw [ea] at h; cases h
  | some ds =>
    rw [ea, Option.bind_some] at h
    split at h
    · rename_i hn
      cases ew : xg ds with
      | none => rw [ew] at h; cases h
      | some c =>
        rw [ew] at h
        cases h
        exact ha g ds ea H0 Oc pins ow σ H R _ fun vs H1 e1 r1 => .inr (sp_call (R.grow e1) r1 hn ew q)
    · cases h
theorem er_callO {n : Nat} {gf : PF} {xg : List D → Option XV} (ha : AR K ta a) : ER K (tCallS (spO (spG K n gf) (spX K n xg)) (WE W) ta) (dCall n gf a) := fun g d h H0 Oc pins ow σ H R Q q => by
  unfold dCall at h
  cases ea : a g with
  | none => rw [ea] at h; cases h
  | some ds =>
    rw [ea] at h
    simp only [Option.bind_some] at h
    split at h
    · rename_i hn
      cases ew : gf ds with
      | none => rw [ew] at h; cases h
      | some wd =>
        rw [ew] at h
        cases h
        refine ha g ds ea H0 Oc pins ow σ H R _ fun vs H1 e1 r1 => .inl ?_
        refine ⟨OO Oc ow, ds, wd, by rw [r1.len]; exact hn, (R.grow e1).oo, r1, ew, ?_⟩
        cases wd with
        | v d => exact fun v H2 e2 r2 => q v H2 (e1.trans e2) r2
        | o d => exact fun p H2 e2 hp r2 => q _ H2 (e1.trans e2) (r2.toRp ((R.grow e1).new hp))
    · cases h
end
/-! ### in the except suite: slot i holds the error at a, its dict at dd -/
section
variable {K : PySem.W.Frag} {i : Nat} {a dd D : Addr} {fld : Str}
/-- e.fld -/
def dXf (a dd D : Addr) (fld : Str) (i : Nat) : DF := fun g => match dVar i g with
  | some (.exn a' dd' D' fs) => if a' = a ∧ dd' = dd ∧ D' = D then fs.lookup fld else none
  | _ => none
theorem er_xf : ER K (tXf a (.ref D) (some dd) D fld (tVar i)) (dXf a dd D fld i) := fun g d h H0 Oc pins ow σ H R Q q => by
  unfold dXf at h
  cases ev : dVar i g with
  | none => rw [ev] at h; cases h
  | some y =>
    rw [ev] at h
    cases y with
    | exn a' dd' D' fs =>
      simp only at h
      split at h
      · rename_i hh
        obtain ⟨rfl, rfl, rfl⟩ := hh
        refine er_var i g _ ev H0 Oc pins ow σ H R _ fun u H1 e1 r1 => ?_
        cases r1 with
        | exn n hd rf =>
          obtain ⟨v, el, rv⟩ := rf.look h
          exact ⟨rfl, rfl, _, _, v, rfl, hd, el, q v H1 e1 rv⟩
      · cases h
    | _ => cases h
/-- isinstance(e, c) for an error with a dict -/
def rIsE (K : PySem.W.Frag) (D a dd : Addr) : List V → Hp → VK → Prop := fun xs H Q => ∃ (c : V) (cv : Value) (b : Bool) (fs : List (Str × V)), xs = [.ref a, c] ∧ H dd = some (.xd fs) ∧ (∀ u, RelV c u → u = cv) ∧ PySem.W.kitOne K (.ref D) cv = some b ∧ Q (.bl b) H
theorem cls_some {K : PySem.W.Frag} {D : Addr} (h : PySem.W.hasDictIn K D = true) : (PySem.W.clsIn K D).isSome = true := by
  obtain ⟨cd, hc, _⟩ := PySem.W.any_some h
  rw [hc]; rfl
theorem inst_at {X : Cx} {pins : List (Addr × Obj)} {σ : St} {H : Hp} {s : Shared} {oe : Obj} {fs : List (Str × V)} (I : Inv X pins σ H s) (ha : s.heap.get? a = some oe) (hz : Zc (.ref D) (some dd) oe) (hf : ∃ vs, oe.data = .fields vs) (hx : H dd = some (.xd fs)) :
    ∃ od, PySem.W.InstAt s.heap a oe D (some od) := by
  have hx : ObjOk X.prog X.w H s.heap dd (.xd fs) := I.hok dd _ hx
  obtain ⟨mA, hns, hr⟩ := hx
  obtain ⟨od, ho, hl⟩ := lookIn_ns hns
  obtain ⟨vs, hd⟩ := hf
  exact ⟨od, ha, hz.1, by unfold PySem.W.notCls; rw [hd] <;> rfl, by rw [hz.2]; exact ho⟩
theorem call_isE {X : Cx} {oe : Obj} {pn : List (Addr × Obj)} (C : L2.ExcC X.K D) (hz : Zc (.ref D) (some dd) oe) (hf : ∃ vs, oe.data = .fields vs) : CallR (X.suite a ((a, oe) :: pn)) (.builtin "isinstance") (rIsE X.K D a dd) := by
  intro pins s σ H xs us Q I r h
  obtain ⟨c, cv, b, fs, rfl, hx, hcv, e, q⟩ := h
  cases r with
  | cons rx rr =>
    cases rr with
    | cons rt rr =>
      cases rr
      cases rx
      have ec := hcv _ rt
      subst ec
      obtain ⟨hget, _⟩ := I.pin (a, oe) (List.mem_append.mpr (.inl List.mem_cons_self))
      obtain ⟨od, J⟩ := inst_at I hget hz hf hx
      exact PySem.W.kia_one (PySem.W.kitx_exc (cls_some C.hd) C.hg C.hk C.hs C.ha C.hn C.ht C.hm) I.kIn J e (fun z => nomatch z) fun tk => ⟨.bl b, H, I.kept (t' := tk) fun _ _ z => z, rfl, q⟩
def dIs (a dd D : Addr) (b : Bool) (i : Nat) : DF := fun g => match dVar i g with
  | some (.exn a' dd' D' fs) => if a' = a ∧ dd' = dd ∧ D' = D then some (.bl b) else none
  | _ => none
theorem er_is {c : V} {cv : Value} {b : Bool} (hcv : ∀ u, RelV c u → u = cv) (hk : PySem.W.kitOne K (.ref D) cv = some b) : ER K (tCB (rIsE K D a dd) (tCons (tVar i) (tCons (tC c) tNil))) (dIs a dd D b i) := fun g d h H0 Oc pins ow σ H R Q q => by
  unfold dIs at h
  cases ev : dVar i g with
  | none => rw [ev] at h; cases h
  | some y =>
    rw [ev] at h
    cases y with
    | exn a' dd' D' fs =>
      simp only at h
      split at h
      · rename_i hh
        obtain ⟨rfl, rfl, rfl⟩ := hh
        cases h
        refine er_var i g _ ev H0 Oc pins ow σ H R _ fun u H1 e1 r1 => ?_
        cases r1 with
        | exn n hd rf => exact ⟨c, cv, b, _, rfl, hd, hcv, hk, q _ H1 e1 (.bl b)⟩
      · cases h
    | _ => cases h
end
/-! ### try -/
section
variable {K : PySem.W.Frag} {i : Nat} {c : Value} {x : XF} {s : SF} {hd : Addr → Addr → SF} {tb : WX → TS} {tsD : Addr → Addr → TS} {Wout : WX} {D : Addr} {g : Gm}
def tsE (K : PySem.W.Frag) (D : Addr) (tsD : Addr → Addr → TS) : Addr → Value → Option Addr → TS := fun a cls d De σ H => ∃ dd, cls = .ref D ∧ d = some dd ∧ tsD a dd De σ H
theorem pss_exc {X : Cx} {st : List Stmt} {a : Addr} {oe : Obj} {cls : Value} {d : Option Addr} (hz : Zc cls d oe) (h : ∀ dd, Zc (.ref D) (some dd) oe → PSs X st (tsD a dd)) : PSs X st (tsE K D tsD a cls d) := by
  constructor
  rintro pins s σ H De I ⟨dd, rfl, rfl, w⟩
  exact (h dd hz).run pins s σ H De I w
open Classical in
noncomputable def sTry (D : Addr) (i : Nat) (x : XF) (s : SF) (hd : Addr → Addr → SF) : SF := fun g => match x g with
  | none => s g
  | some r => if r.1.1 = D ∧ r.2[i]? = some none then (if h : ∃ w, ∀ a dd, hd a dd (r.2.set i (some (.v (.exn a dd D r.1.2)))) = some (.rt w) then some (.rt h.choose) else none) else none
theorem sTry_no (h : x g = none) : sTry D i x s hd g = s g := by
  unfold sTry
  rw [h]
theorem sTry_yes {fs : List (Str × Zk.D)} {g' : Gm} {w : Wd} (h : x g = some ((D, fs), g')) (hi : g'[i]? = some none) (hh : ∀ a dd, hd a dd (g'.set i (some (.v (.exn a dd D fs)))) = some (.rt w)) : sTry D i x s hd g = some (.rt w) := by
  unfold sTry
  rw [h]
  simp only
  rw [if_pos (show D = D ∧ g'[i]? = some none from ⟨rfl, hi⟩)]
  have e : ∃ w, ∀ a dd, hd a dd (g'.set i (some (.v (.exn a dd D fs)))) = some (.rt w) := ⟨w, hh⟩
  rw [dif_pos e]
  have z := (e.choose_spec 0 0).symm.trans (hh 0 0)
  cases z
  rfl
theorem sr_try (hx : ∀ W, XS K W (tb W) x) (hs : ∀ W, SR K (tb W) s) (hm : PySem.W.exmOne K (.ref D) c = some true) (hh : ∀ a dd, SR K (tsD a dd) (hd a dd)) :
    SR K (fun De σ H => tb (wAs K c i (tsE K D tsD) Wout De) De σ H) (sTry D i x s hd) := fun g out e H0 Oc pins ow σ H R De q => by
  unfold sTry at e
  cases ex : x g with
  | none =>
    rw [ex] at e
    exact hs _ g out e H0 Oc pins ow σ H R De q
  | some r =>
    rw [ex] at e
    simp only at e
    split at e
    · rename_i hr
      split at e
      · rename_i hw
        cases e
        have hspec := hw.choose_spec
        generalize hw.choose = w at hspec q
        refine hx _ g r ex H0 Oc pins ow σ H R (fun ow' σ' H' dd fs' R' hno h0 hdd rf => ?_) De
        rw [hr.1]
        refine ⟨true, hm, fun _ a ha => ⟨dd, rfl, rfl, ?_⟩, fun z => by cases z⟩
        have hok : okSlot r.2 i = true := by
          have hl : i < r.2.length := (List.getElem?_eq_some_iff.mp hr.2).1
          unfold okSlot
          rw [decide_eq_true hl, Bool.true_and]
          cases i with
          | zero =>
            have e0 : ownAt r.2 0 = false := by
              unfold ownAt
              rw [hr.2]
            rw [e0]
            rfl
          | succ n => rfl
        have R2 := R'.setV (d := .exn a dd D r.1.2) hok (Rp.exn (a := a) hno hdd rf)
        refine hh a dd _ _ (hspec a dd) H0 Oc pins _ _ H' R2 _ ?_
        cases w with
        | v d => exact q
        | o d => exact q
      · cases e
    · cases e
end
/-! ### list(range(i, j)) -/
section
variable {K : PySem.W.Frag} {ta tb : TE} {a b : DF}
end
end Zr
end

section
set_option Elab.async false
set_option linter.all false
set_option maxRecDepth 100000
set_option autoImplicit false
set_option maxHeartbeats 2000000
/-! A def that hands back what it was handed, or a new list. -/
namespace Zb
open PySem L2 Zk
open Evl (Ex)
variable {K : PySem.W.Frag}
section
variable {gf : PF} {i : Nat} {a b : DF} {g : Gm} {x y : D} {dl dl' : List D}
end
/-! ### x or y, values -/
def dOrT (a b : DF) : DF := fun g => (a g).bind fun x => (truD x).bind fun k => if k = true then some x else b g
end Zb
end

section
set_option Elab.async false
set_option linter.all false
set_option maxRecDepth 100000
set_option autoImplicit false
set_option maxHeartbeats 2000000
/-! Set comprehensions of pairs over two clauses, sorted. -/
namespace Zt
open PySem PySem.Spec PyProof.Rows L2 Zk
open Evl (Ex)

section
variable {prog : Program} {w : World} {A : Around} {R : Result → Shared → Prop} {s : Shared}
end
section
variable {X : Cx}
end

section
variable {X : Cx}
/-! ### two clauses -/
end
/-! ### on data -/
section
variable {K : PySem.W.Frag}
abbrev Pr := Int × Int
def dd : List Pr → List Pr
  | [] => []
  | p :: ps => if p ∈ ps then dd ps else p :: dd ps
theorem mem_dd {q : Pr} : ∀ {ps : List Pr}, q ∈ dd ps ↔ q ∈ ps
  | [] => Iff.rfl
  | p :: ps => by
    unfold dd
    have ih := mem_dd (q := q) (ps := ps)
    split
    · rename_i hp
      rw [ih, List.mem_cons]
      exact ⟨.inr, fun z => z.elim (fun e => e ▸ hp) id⟩
    · rw [List.mem_cons, List.mem_cons, ih]
theorem nodup_sub {α : Type} [DecidableEq α] : ∀ {l1 l2 : List α}, l1.Nodup → (∀ x ∈ l1, x ∈ l2) → l1.length ≤ l2.length
  | [], _, _, _ => Nat.zero_le _
  | a :: l1, l2, h, hs => by
    obtain ⟨h1, h2⟩ := List.nodup_cons.mp h
    have ih := nodup_sub (l2 := l2.erase a) h2 fun x hx => (List.mem_erase_of_ne fun e => h1 (by rw [← e]; exact hx)).mpr (hs x (List.mem_cons_of_mem _ hx))
    have ha := hs a List.mem_cons_self
    rw [List.length_erase_of_mem ha] at ih
    have := List.length_pos_of_mem ha
    rw [List.length_cons]
    omega
def lp (q : Pr) : List Int := [q.1, q.2]
/-- the set at D holds just these pairs -/
structure SetP (P : Program) (w : World) (O : Addr → Prop) (Dl : Addr) (H : Hp) (ps : List Pr) (L : List (Addr × List Int)) : Prop where
  at_ : H Dl = some (SetTO P w Dl L)
  tup : ∀ p ∈ L, ∃ q ∈ ps, p.2 = lp q ∧ ¬ O p.1 ∧ H p.1 = some (.tup [V.int q.1, V.int q.2])
  all : ∀ q ∈ ps, lp q ∈ L.map (·.2)
  nd : (L.map (·.2)).Nodup
theorem SetP.len {P : Program} {w : World} {O : Addr → Prop} {Dl : Addr} {H : Hp} {ps qs : List Pr} {L : List (Addr × List Int)} (h : SetP P w O Dl H ps L) (hs : ∀ q ∈ ps, q ∈ qs) : L.length ≤ (dd qs).length := by
  have e : L.length = (L.map (·.2)).length := by rw [List.length_map]
  have e2 : (dd qs).length = ((dd qs).map lp).length := by rw [List.length_map]
  rw [e, e2]
  refine nodup_sub h.nd fun x hx => ?_
  obtain ⟨p, hp, e⟩ := List.mem_map.mp hx
  obtain ⟨q, hq, e3, _⟩ := h.tup p hp
  rw [← e, e3]
  exact List.mem_map.mpr ⟨q, mem_dd.mpr (hs q hq), rfl⟩
def inB (q : Pr) : Prop := 0 ≤ q.1 ∧ q.1 < 64 ∧ 0 ≤ q.2 ∧ q.2 < 64
instance (q : Pr) : Decidable (inB q) := by unfold inB; exact inferInstance
theorem SetP.put {P : Program} {w : World} {O : Addr → Prop} {Dl t : Addr} {H : Hp} {ps : List Pr} {q : Pr} {L L' : List (Addr × List Int)} (h : SetP P w O Dl H ps L) (hO : O Dl) (nt : ¬ O t) (ht : H t = some (.tup [V.int q.1, V.int q.2]))
    (c1 : lp q ∈ L.map (·.2) → L' = L) (c2 : lp q ∉ L.map (·.2) → L'.Perm ((t, lp q) :: L)) : SetP P w O Dl (upd H Dl (SetTO P w Dl L')) (ps ++ [q]) L' := by
  have keep : ∀ a, ¬ O a → upd H Dl (SetTO P w Dl L') a = H a := fun a n => upd_ne fun z => n (by rw [z]; exact hO)
  have old : ∀ p ∈ L, ∃ r ∈ ps ++ [q], p.2 = lp r ∧ ¬ O p.1 ∧ upd H Dl (SetTO P w Dl L') p.1 = some (.tup [V.int r.1, V.int r.2]) := fun p hp => by
    obtain ⟨r, hr, e, n, z⟩ := h.tup p hp
    exact ⟨r, List.mem_append_left _ hr, e, n, by rw [keep _ n]; exact z⟩
  by_cases hm : lp q ∈ L.map (·.2)
  · have e := c1 hm
    subst e
    refine ⟨upd_same, old, fun r hr => ?_, h.nd⟩
    rcases List.mem_append.mp hr with hr | hr
    · exact h.all r hr
    · rw [List.mem_singleton.mp hr]; exact hm
  · have pm := c2 hm
    have pm2 := pm.map (·.2)
    refine ⟨upd_same, fun p hp => ?_, fun r hr => ?_, ?_⟩
    · rcases List.mem_cons.mp (pm.mem_iff.mp hp) with z | z
      · rw [z]
        exact ⟨q, List.mem_append_right _ List.mem_cons_self, rfl, nt, by rw [keep _ nt]; exact ht⟩
      · exact old p z
    · refine pm2.mem_iff.mpr ?_
      rw [List.map_cons]
      rcases List.mem_append.mp hr with hr | hr
      · exact List.mem_cons_of_mem _ (h.all r hr)
      · rw [List.mem_singleton.mp hr]; exact List.mem_cons_self
    · refine pm2.nodup_iff.mpr ?_
      rw [List.map_cons]
      exact List.nodup_cons.mpr ⟨hm, h.nd⟩
theorem SetP.ex {P : Program} {w : World} {O : Addr → Prop} {Dl : Addr} {H H2 : Hp} {ps : List Pr} {L : List (Addr × List Int)} (h : SetP P w O Dl H ps L) (e : Ex H H2) : SetP P w O Dl H2 ps L :=
  ⟨e _ _ h.at_, fun p hp => let ⟨q, a, b, c, d⟩ := h.tup p hp; ⟨q, a, b, c, e _ _ d⟩, h.all, h.nd⟩
end
end Zt
end

section
set_option Elab.async false
set_option linter.all false
set_option maxRecDepth 100000
set_option autoImplicit false
set_option maxHeartbeats 2000000
/-! A def that returns (x, list of its own); x, y = f(..). -/
namespace Zw
open PyProof.Rows hiding St
open PySem PySem.Spec L2 Zk
open Evl (Ex)
/-- what a body that ends so does -/
abbrev SF2 : Type := Gm → Option (D × D)
section
variable {K : PySem.W.Frag} {ts tu : TS} {s : SF} {u : SF2}
end
section
variable {K : PySem.W.Frag}
end
section
variable {P : Program} {w : World} {K : PySem.W.Frag} {mg : Str → Option Value} {base : Heap}
end
end Zw
end

section
set_option Elab.async false
set_option linter.all false
set_option maxRecDepth 100000
set_option autoImplicit false
set_option maxHeartbeats 2000000
/-! Texts: str(n), int(text), methods, slices, in; *xs, y = a list; enumerate(xs, start=k). -/
namespace L2
open PySem PySem.Spec PyProof.Rows

/-! ### a starred target -/
section
variable {X : Cx} {pos p' : Pos}
theorem Vals.app {xs ys : List V} {us ws : List Value} (r : Vals xs us) (q : Vals ys ws) : Vals (xs ++ ys) (us ++ ws) := by
  induction r with
  | nil => exact q
  | cons h _ ih => exact .cons h ih
end

/-! ### enumerate(a list, start=k) -/
end L2
namespace Zj
open PyProof.Rows hiding St
open PySem PySem.Spec L2 Zk
open Evl (Ex)
section
variable {K : PySem.W.Frag}
/-! ### str(n), int(text) -/
def rStrI : List V → Hp → VK → Prop := fun xs H Q => ∃ i, xs = [.int i] ∧ i.natAbs.log2 < 1920 ∧ Q (.str (toString i)) H
def strD : List D → Option D
  | [.int i] => if i.natAbs.log2 < 1920 then some (.str (toString i)) else none
  | _ => none
theorem rc_str : RC K rStrI strD := fun xs d h O H vs o r Q q => by
  unfold strD at h
  split at h
  · split at h
    · rename_i hl
      cases h
      cases r with
      | cons r rr => cases rr; cases r; exact ⟨_, rfl, hl, rr_fin q (.str _)⟩
    · cases h
  · cases h
def rIntS : List V → Hp → VK → Prop := fun xs H Q => ∃ a n, xs = [.str a] ∧ PySem.intText? a = some n ∧ a.length ≤ 640 ∧ Q (.int n) H
def intSD : List D → Option D
  | [.str s] => if s.length ≤ 640 then (PySem.intText? s).map .int else none
  | _ => none
theorem rc_intS : RC K rIntS intSD := fun xs d h O H vs o r Q q => by
  unfold intSD at h
  split at h
  · rename_i s
    split at h
    · rename_i hl
      cases e : PySem.intText? s with
      | none => rw [e] at h; cases h
      | some n =>
        rw [e] at h
        cases h
        cases r with
        | cons r rr => cases rr; cases r; exact ⟨_, n, rfl, e, hl, rr_fin q (.int _)⟩
    · cases h
  · cases h
/-! ### methods of texts -/
def RM0 (K : PySem.W.Frag) (r : V → List V → Hp → VK → Prop) (f : Str → Option D) : Prop := ∀ s d, f s = some d → ∀ (O : Addr → Prop) H, (∀ a, O a → Lv H a) → ∀ Q : VK, (∀ w H', Ex H H' → Rp K O H' w d → Q w H') → r (.str s) [] H Q
def RM1 (K : PySem.W.Frag) (r : V → List V → Hp → VK → Prop) (f : Str → D → Option D) : Prop := ∀ s y d, f s y = some d → ∀ (O : Addr → Prop) H u, (∀ a, O a → Lv H a) → Rp K O H u y → ∀ Q : VK, (∀ w H', Ex H H' → Rp K O H' w d → Q w H') → r (.str s) [u] H Q
def dM0 (f : Str → Option D) (a : DF) : DF := fun g => (a g).bind fun x => match x with
  | .str s => f s
  | _ => none
def dM1 (f : Str → D → Option D) (a b : DF) : DF := fun g => (a g).bind fun x => match x with
  | .str s => (b g).bind fun y => f s y
  | _ => none
theorem er_m0 {r : V → List V → Hp → VK → Prop} {f : Str → Option D} {to : TE} {a : DF} (hr : RM0 K r f) (ha : ER K to a) : ER K (tM0 r to) (dM0 f a) := fun g d h H0 Oc pins ow σ H R Q q => by
  unfold dM0 at h
  cases ea : a g with
  | none => rw [ea] at h; cases h
  | some x =>
    rw [ea, Option.bind_some] at h
    split at h
    · rename_i s
      refine ha g _ ea H0 Oc pins ow σ H R _ fun v H1 e1 r1 => ?_
      cases r1
      exact ⟨⟨_, rfl⟩, hr s d h (OO Oc ow) H1 (R.grow e1).oo Q fun w H' e' r' => q w H' (e1.trans e') r'⟩
    · cases h
theorem er_m1 {r : V → List V → Hp → VK → Prop} {f : Str → D → Option D} {to te : TE} {a b : DF} (hr : RM1 K r f) (ha : ER K to a) (hb : ER K te b) : ER K (tM1 r to te) (dM1 f a b) := fun g d h H0 Oc pins ow σ H R Q q => by
  unfold dM1 at h
  cases ea : a g with
  | none => rw [ea] at h; cases h
  | some x =>
    rw [ea, Option.bind_some] at h
    split at h
    · rename_i s
      cases eb : b g with
      | none => rw [eb] at h; cases h
      | some y =>
        rw [eb, Option.bind_some] at h
        refine ha g _ ea H0 Oc pins ow σ H R _ fun v H1 e1 r1 => ?_
        cases r1
        refine ⟨⟨_, rfl⟩, hb g y eb H0 Oc pins ow σ H1 (R.grow e1) _ fun w H2 e2 r2 => ?_⟩
        exact hr s y d h (OO Oc ow) H2 w ((R.grow e1).grow e2).oo r2 Q fun w H' e' r' => q w H' ((e1.trans e2).trans e') r'
    · cases h
def asStrs : List D → Option (List Str)
  | [] => some []
  | .str s :: ds => (asStrs ds).map (s :: ·)
  | _ => none
theorem asStrs_vs {O : Addr → Prop} {H : Hp} : ∀ {ds : List D} {vs : List V} {ns : List Str}, RpA K O H vs ds → asStrs ds = some ns → vs = ns.map V.str
  | [], _, ns, .nil, h => by cases h; rfl
  | d :: ds, _, ns, .cons r rr, h => by
    cases r <;> first | (cases h; done) | skip
    unfold asStrs at h
    cases e : asStrs ds with
    | none => rw [e] at h; cases h
    | some ms =>
      rw [e] at h
      cases h
      rw [List.map_cons, asStrs_vs rr e]
def sL (ss : List Str) : List D := ss.map D.str
theorem RpA.ofStrs {O : Addr → Prop} {H : Hp} : ∀ (ns : List Str), RpA K O H (ns.map V.str) (sL ns)
  | [] => .nil
  | n :: ns => .cons (.str n) (RpA.ofStrs ns)
def isdigitD (s : Str) : Option D := some (.bl (Txt.isdigit s))
abbrev rIsdigit : V → List V → Hp → VK → Prop := fun x xs H Q => ∃ a, x = .str a ∧ xs = [] ∧ True ∧ Q (.bl (Txt.isdigit a)) H
theorem rm_isdigit : RM0 K rIsdigit isdigitD := fun s d h O H o Q q => by
  cases h
  exact ⟨s, rfl, rfl, trivial, rr_fin q (.bl _)⟩
def startsD (s : Str) : D → Option D
  | .str b => some (.bl (Txt.startswith s b))
  | _ => none
abbrev rStarts : V → List V → Hp → VK → Prop := fun x xs H Q => ∃ a b, x = .str a ∧ xs = [.str b] ∧ Q (.bl (Txt.startswith a b)) H
theorem rm_starts : RM1 K rStarts startsD := fun s y d h O H u o r Q q => by
  unfold startsD at h
  split at h
  · cases h; cases r
    exact ⟨s, _, rfl, rfl, rr_fin q (.bl _)⟩
  · cases h
def findD (s : Str) : D → Option D
  | .str b => some (.int (Txt.find s b))
  | _ => none
abbrev rFind : V → List V → Hp → VK → Prop := fun x xs H Q => ∃ a b, x = .str a ∧ xs = [.str b] ∧ Q (.int (Txt.find a b)) H
theorem rm_find : RM1 K rFind findD := fun s y d h O H u o r Q q => by
  unfold findD at h
  split at h
  · cases h; cases r
    exact ⟨s, _, rfl, rfl, rr_fin q (.int _)⟩
  · cases h
def splitD (s : Str) : D → Option D
  | .str b => if (b.length == 0) = false ∧ s.length ≤ 100000 then some (.lst (sL (Txt.split s b))) else none
  | _ => none
abbrev rSplit : V → List V → Hp → VK → Prop := fun x xs H Q => ∃ a b, x = .str a ∧ xs = [.str b] ∧ (b.length == 0) = false ∧ a.length + 2 ≤ sizeLine ∧ rNewStrs (Txt.split a b) H Q
theorem rm_split : RM1 K rSplit splitD := fun s y d h O H u o r Q q => by
  unfold splitD at h
  split at h
  · split at h
    · rename_i hb
      cases h; cases r
      exact ⟨s, _, rfl, rfl, hb.1, by rw [sizeLine_eq]; omega, rr_newL o q (RpA.ofStrs _)⟩
    · cases h
  · cases h
def partD (s : Str) : D → Option D
  | .str b => if (b.length == 0) = false ∧ s.length ≤ 100000 then some (.tup [.str (Txt.partition s b).1, .str (Txt.partition s b).2.1, .str (Txt.partition s b).2.2]) else none
  | _ => none
abbrev rPart : V → List V → Hp → VK → Prop := fun x xs H Q => ∃ a b, x = .str a ∧ xs = [.str b] ∧ (b.length == 0) = false ∧ a.length ≤ sizeLine ∧ ∀ p, H p = none → Q (.ref p) (upd H p (.tup [.str (Txt.partition a b).1, .str (Txt.partition a b).2.1, .str (Txt.partition a b).2.2]))
theorem rm_part : RM1 K rPart partD := fun s y d h O H u o r Q q => by
  unfold partD at h
  split at h
  · split at h
    · rename_i hb
      cases h; cases r
      exact ⟨s, _, rfl, rfl, hb.1, Evl.sz_of hb.2, rr_newT o q (.cons (.str _) (.cons (.str _) (.cons (.str _) .nil)))⟩
    · cases h
  · cases h
def joinD (s : Str) : D → Option D
  | .lst ds => (asStrs ds).bind fun ys => if (ys.map (·.length)).sum + ys.length * s.length ≤ 100000 then some (.str (Txt.join s ys)) else none
  | .tup ds => (asStrs ds).bind fun ys => if (ys.map (·.length)).sum + ys.length * s.length ≤ 100000 then some (.str (Txt.join s ys)) else none
  | _ => none
abbrev rJoinT (K : PySem.W.Frag) : V → List V → Hp → VK → Prop := fun x xs H Q => ∃ a p, ∃ ys : List Str, x = .str a ∧ xs = [.ref p] ∧ (SqL K H p (ys.map V.str) ∨ SqT K H p (ys.map V.str)) ∧
      (ys.map (·.length)).sum + ys.length * a.length ≤ 16777216 ∧ Q (.str (Txt.join a ys)) H
theorem rm_join : RM1 K (rJoinT K) joinD := fun s y d h O H u o r Q q => by
  unfold joinD at h
  split at h
  · rename_i ds
    cases e : asStrs ds with
    | none => rw [e] at h; cases h
    | some ys =>
      rw [e, Option.bind_some] at h
      split at h
      · rename_i hl
        cases h
        cases r with
        | lst n e' r =>
          rw [asStrs_vs r e] at e'
          exact ⟨s, _, ys, rfl, rfl, .inl (.of e'), by omega, rr_fin q (.str _)⟩
      · cases h
  · rename_i ds
    cases e : asStrs ds with
    | none => rw [e] at h; cases h
    | some ys =>
      rw [e, Option.bind_some] at h
      split at h
      · rename_i hl
        cases h
        cases r with
        | tup n e' r =>
          rw [asStrs_vs r e] at e'
          exact ⟨s, _, ys, rfl, rfl, .inr (.of e'), by omega, rr_fin q (.str _)⟩
      · cases h
  · cases h
/-! ### in, order, slices -/
def rInT : R2 := fun x y H Q => ∃ i j, x = .str i ∧ y = .str j ∧ Q (.bl (!(Builtin.Str.occurrences j i 0 j.length 1).isEmpty)) H
def rNinT : R2 := fun x y H Q => ∃ i j, x = .str i ∧ y = .str j ∧ Q (.bl (!(!(Builtin.Str.occurrences j i 0 j.length 1).isEmpty))) H
def rLeT : R2 := fun x y H Q => ∃ i j, x = .str i ∧ y = .str j ∧ Q (.bl (!decide (j.cps.toList < i.cps.toList))) H
def onT (f : Str → Str → Bool) : D → D → Option D
  | .str i, .str j => some (.bl (f i j))
  | _, _ => none
def inTf (i j : Str) : Bool := !(Builtin.Str.occurrences j i 0 j.length 1).isEmpty
def ninTf (i j : Str) : Bool := !(!(Builtin.Str.occurrences j i 0 j.length 1).isEmpty)
def leTf (i j : Str) : Bool := !decide (j.cps.toList < i.cps.toList)
def ltTf (i j : Str) : Bool := decide (i.cps.toList < j.cps.toList)
theorem rr_onT {r : R2} {f : Str → Str → Bool} (hr : ∀ i j H (Q : VK), Q (.bl (f i j)) H → r (.str i) (.str j) H Q) : RR K r (onT f) := fun x y d h O H v u o rx ry Q q => by
  unfold onT at h
  split at h
  · cases h; cases rx; cases ry
    exact hr _ _ H Q (rr_fin q (.bl _))
  · cases h
theorem rr_inT : RR K rInT (onT inTf) := rr_onT fun i j H Q q => ⟨i, j, rfl, rfl, q⟩
theorem rr_ninT : RR K rNinT (onT ninTf) := rr_onT fun i j H Q q => ⟨i, j, rfl, rfl, q⟩
theorem rr_leT : RR K rLeT (onT leTf) := rr_onT fun i j H Q q => ⟨i, j, rfl, rfl, q⟩
def slSD : D → Option Int → Option Int → Option D
  | .str s, lo, hi => if s.length ≤ 100000 then some (.str (Txt.slice s lo hi)) else none
  | _, _, _ => none
def dSlS (a : DF) (lo hi : DOF) : DF := fun g => (a g).bind fun x => (lo g).bind fun l => (hi g).bind fun h => slSD x l h
theorem er_slS {te : TE} {tl th : TO} {a : DF} {lo hi : DOF} (ha : ER K te a) (hl : OR K tl lo) (hh : OR K th hi) : ER K (tSl C8.rSlX te tl th) (dSlS a lo hi) := fun g d h H0 Oc pins ow σ H R Q q => by
  unfold dSlS at h
  cases ea : a g with
  | none => rw [ea] at h; cases h
  | some x =>
    rw [ea, Option.bind_some] at h
    cases el : lo g with
    | none => rw [el] at h; cases h
    | some l =>
      rw [el, Option.bind_some] at h
      cases eh : hi g with
      | none => rw [eh] at h; cases h
      | some u =>
        rw [eh, Option.bind_some] at h
        refine ha g x ea H0 Oc pins ow σ H R _ fun v H1 e1 r1 => ?_
        refine hl g l el H0 Oc pins ow σ H1 (R.grow e1) _ fun H2 e2 => ?_
        refine hh g u eh H0 Oc pins ow σ H2 ((R.grow e1).grow e2) _ fun H3 e3 => ?_
        unfold slSD at h
        split at h
        · split at h
          · rename_i hz
            cases h
            cases r1
            exact ⟨_, rfl, Evl.sz_of hz, q _ H3 ((e1.trans e2).trans e3) (.str _)⟩
          · cases h
        · cases h
/-! ### f-strings -/
def fmtD : D → Option D
  | .str y => if y.length ≤ 100000 then some (.str y) else none
  | .int i => if i.natAbs.log2 < 1920 then some (.str (toString i)) else none
  | _ => none
theorem er_fmt {te : TE} {a : DF} (ha : ER K te a) : ER K (tFmt te) (d1 fmtD a) := fun g d h H0 Oc pins ow σ H R Q q => by
  unfold d1 at h
  cases ea : a g with
  | none => rw [ea] at h; cases h
  | some x =>
    rw [ea, Option.bind_some] at h
    refine ha g x ea H0 Oc pins ow σ H R _ fun v H1 e1 r1 => ?_
    unfold fmtD at h
    split at h
    · split at h
      · rename_i hz
        cases h; cases r1
        exact .inl ⟨_, rfl, Evl.sz_of hz, q _ H1 e1 (.str _)⟩
      · cases h
    · split at h
      · rename_i hz
        cases h; cases r1
        exact .inr ⟨_, rfl, hz, q _ H1 e1 (.str _)⟩
      · cases h
    · cases h
def dJs : List DF → Str → Gm → Option Str
  | [], acc, _ => some acc
  | t :: ts, acc, g => (t g).bind fun x => match x with
    | .str y => if (acc ++ y).length ≤ 100000 then dJs ts (acc ++ y) g else none
    | _ => none
inductive JR (K : PySem.W.Frag) : List TE → List DF → Prop where
  | nil : JR K [] []
  | cons {t : TE} {a : DF} {ts : List TE} {as : List DF} (h : ER K t a) (r : JR K ts as) : JR K (t :: ts) (a :: as)
theorem jr_run {ts : List TE} {as : List DF} (h : JR K ts as) : ∀ (g : Gm) (acc out : Str), dJs as acc g = some out → ∀ H0 Oc pins ow σ H, Reps K H0 Oc pins ow σ H g → ∀ Q : Str → Hp → Prop, (∀ H', Ex H H' → Q out H') → tJs ts acc σ H Q := by
  induction h with
  | nil => exact fun g acc out e H0 Oc pins ow σ H R Q q => by cases e; exact q H (Evl.Ex.refl H)
  | @cons t a ts as h r ih =>
    intro g acc out e H0 Oc pins ow σ H R Q q
    unfold dJs at e
    cases ea : a g with
    | none => rw [ea] at e; cases e
    | some x =>
      rw [ea, Option.bind_some] at e
      split at e
      · split at e
        · rename_i hz
          refine h g _ ea H0 Oc pins ow σ H R _ fun v H1 e1 r1 => ?_
          cases r1
          exact ⟨_, rfl, Evl.sz_of hz, ih g _ out e H0 Oc pins ow σ H1 (R.grow e1) Q fun H' e' => q H' (e1.trans e')⟩
        · cases e
      · cases e
def dJoin (as : List DF) : DF := fun g => (dJs as Str.empty g).map .str
theorem er_joined {ts : List TE} {as : List DF} (h : JR K ts as) : ER K (fun σ H Q => tJs ts Str.empty σ H fun out H1 => Q (.str out) H1) (dJoin as) := fun g d e H0 Oc pins ow σ H R Q q => by
  unfold dJoin at e
  cases ej : dJs as Str.empty g with
  | none => rw [ej] at e; cases e
  | some out =>
    rw [ej] at e
    cases e
    exact jr_run h g _ out ej H0 Oc pins ow σ H R _ fun H' e' => q _ H' e' (.str _)
/-! ### a starred target -/
def sStar (a : DF) (n i : Nat) (r : DGFs) : SF := fun g => (a g).bind fun x => match x with
  | .lst ds => if n ≤ ds.length + 1 ∧ ds.length ≤ 16384 then (r (ds.take i ++ [.lst ((ds.drop i).take (ds.length + 1 - n))] ++ (ds.drop i).drop (ds.length + 1 - n)) g).map .nx else none
  | _ => none
/-! ### enumerate(a list, start=k) -/
end
/-! ### a def that returns (list of its own, value): the data is (value, list) all the same -/
/-- what a body that ends so does -/
abbrev SF2 : Type := Gm → Option (D × D)
section
variable {K : PySem.W.Frag} {ts tu : TS} {s : SF} {u : SF2}
end
section
variable {P : Program} {w : World} {K : PySem.W.Frag} {mg : Str → Option Value} {base : Heap}
end
end Zj
end

section
set_option Elab.async false
set_option linter.all false
set_option maxRecDepth 100000
set_option autoImplicit false
set_option maxHeartbeats 2000000
/-! A text times a number; suites of a try that go on behind it. -/
namespace L2
open PySem PySem.Spec PyProof.Rows
end L2
namespace Zj
open PyProof.Rows hiding St
open PySem PySem.Spec L2 Zk
open Evl (Ex)
section
variable {K : PySem.W.Frag}
end
/-! ### try: a suite that may go on -/
section
variable {K : PySem.W.Frag} {i : Nat} {c : Value} {x : Zr.XF} {s : SF} {hd : Addr → Addr → SF} {tb : WX → TS} {tsD : Addr → Addr → TS} {Wout : WX} {D : Addr} {g : Gm}
end
end Zj
/-! ### defs called within a suite that catches (they do not raise) -/
namespace L2W
open PySem PySem.Spec PyProof.Rows L2 L2H
abbrev St := L2.St
/-- p's object is the exception that is handled -/
def Hot0 (A : Around) (p : Addr × Obj) : Prop := A.handled = some (.ref p.1) ∧ ∃ vs : Array Value, p.2.data = .fields vs
structure FnW (P : Program) (w : World) (K : PySem.W.Frag) (mg : Str → Option Value) (base : Heap) (CX : CXT) (k : Nat) (f : Addr) (fd : FuncData) (ps : List Str) (sp : Sp) : Prop where
  len : ∀ vs H Q E, sp vs H Q E → vs.length = ps.length
  run : ∀ (A : Around) (outer : List Env) (s : Shared) (H : Hp) (args : Args) (us : List Value) (vs : List V) (Q : VK) (E : XK) (p : Addr × Obj), RoomH k A → Hot0 A p → PinOk outer H s p → Env0 P w K mg base A outer s H → BindsTo s fd args (ps.zip us) → Vals vs us → sp vs H Q E →
    codeAny (model P w) A (.call (.ref f) args) (CR CX outer P w H s Q E) s
section
variable {X : Cx} {CX : CXT} {k : Nat} {f C : Addr} {fd : FuncData} {ps : List Str} {sp : Sp} {E : XK} {x m : Str} {q pos apos : Pos} {e o : Expr} {es : List Expr} {ta : TE} {t : TA}
end
end L2W
namespace Zj
open PyProof.Rows hiding St
open PySem PySem.Spec L2 L2H L2W Zk
open Evl (Ex)
section
variable {P : Program} {w : World} {K : PySem.W.Frag} {mg : Str → Option Value} {base : Heap}
end
end Zj
end

section
set_option Elab.async false
set_option linter.all false
set_option maxRecDepth 100000
set_option autoImplicit false
set_option maxHeartbeats 2000000
/-! match with `_` among the captures; list.index. -/
namespace Zm
open PySem L2 Zk PyProof.Rows
open Evl (Ex)
section
variable {X : Cx} {pins : List (Addr × Obj)} {σ : L2.St} {H : Hp} {s : Shared}
/-- captures, or `_` -/
inductive CapsW (X : Cx) : List Pattern → List (Option Nat) → Prop
  | nil : CapsW X [] []
  | cons {x : Str} {p : Pos} {j : Nat} {ps : List Pattern} {js : List (Option Nat)} (hj : X.N[j]? = some x) (hl : X.env.scope.names.lookup x = some .local) (h : CapsW X ps js) : CapsW X (.MatchAs none (some x) p :: ps) (some j :: js)
  | wild {p : Pos} {ps : List Pattern} {js : List (Option Nat)} (h : CapsW X ps js) : CapsW X (.MatchAs none none p :: ps) (none :: js)
theorem CapsW.len : ∀ {ps : List Pattern} {js : List (Option Nat)}, CapsW X ps js → ps.length = js.length
  | _, _, .nil => rfl
  | _, _, .cons _ _ h => congrArg (· + 1) h.len
  | _, _, .wild h => congrArg (· + 1) h.len
inductive PMsW (X : Cx) : List MatchCase → List (Str × List (Option Nat) × TS) → Prop
  | nil : PMsW X [] []
  | cons {tag : Str} {kk : Nat} {pp p1 pos : Pos} {caps : List Pattern} {js : List (Option Nat)} {body : List Stmt} {ts : TS} {rest : List MatchCase} {cs : List (Str × List (Option Nat) × TS)}
    (ck : CapsW X caps js) (hb : PSs X body ts) (h : PMsW X rest cs) : PMsW X (⟨.MatchSequence (.MatchValue (.Constant (.str tag) kk pp) p1 :: caps) pos, none, body⟩ :: rest) ((tag, js, ts) :: cs)
end
/-! ### the same on data -/
section
variable {K : PySem.W.Frag}
abbrev CseW := Str × List (Option Nat) × SF
inductive SRsW (K : PySem.W.Frag) : List (Str × List (Option Nat) × TS) → List CseW → Prop
  | nil : SRsW K [] []
  | cons {tag : Str} {js : List (Option Nat)} {ts : TS} {s : SF} {cs : List (Str × List (Option Nat) × TS)} {ds : List CseW} (h : SR K ts s) (r : SRsW K cs ds) : SRsW K ((tag, js, ts) :: cs) ((tag, js, s) :: ds)
end
end Zm
namespace Zk2
open PySem Zk L2 PyProof.Rows
open Evl (Ex)
section
variable {X : Cx}
end
section
variable {K : PySem.W.Frag}
end
end Zk2
end

section
set_option Elab.async false
set_option linter.all false
set_option maxRecDepth 100000
set_option autoImplicit false
set_option maxHeartbeats 4000000
/-! Methods that raise before they change anything. -/
namespace Zq6
open PyProof.Rows hiding St
open PySem PySem.Spec L2 Zk Zr
section
variable {X : Cx} {CX : CXT} {k : Nat} {f C : Addr} {fd : FuncData} {ps : List Str} {sp : Sp} {E : L2.St → XK} {m : Str} {apos pos : Pos} {e o : Expr} {es : List Expr} {ta : TA} {te : TE} {pl : Sem Bool}
end
section
variable {K : PySem.W.Frag} {W : WX} {ta : TA} {te : TE} {a : DAF} {o : DF} {x : XF} {tg : TG} {C : Addr} {m : Str} {n : Nat} {xg : List D → Option XV}
theorem er_no : ER K te (fun _ => none) := fun g d h => by cases h
end
end Zq6
end

section
set_option Elab.async false
set_option linter.all false
set_option maxRecDepth 100000
set_option autoImplicit false
set_option maxHeartbeats 4000000
/-! zip of two lists, or of two tuples, in a for or a comprehension. -/
namespace Zq9
open PySem PySem.Spec L2 Zk
def zipD : List D → List D → List D
  | x :: xs, y :: ys => .tup [x, y] :: zipD xs ys
  | _, _ => []
def dZip (a : DAF) : DIF := fun g => (a g).bind fun zs => match zs with
  | [.lst xs, .lst ys] => some (zipD xs ys)
  | [.tup xs, .tup ys] => some (zipD xs ys)
  | _ => none
/-! ### for a, b, c in a comprehension -/
/-! ### a call that a def makes of itself too deep: it has no reading -/
def tNo : TE := fun _ _ _ => False
theorem pe_no {X : Cx} {e : Expr} : PE X e tNo := ⟨fun _ _ _ _ _ _ h => h.elim⟩
def dNo : DF := fun _ => none
theorem er_no {K : PySem.W.Frag} : ER K tNo dNo := fun g d h => by cases h
end Zq9
end

section
set_option Elab.async false
set_option linter.all false
set_option maxRecDepth 100000
set_option autoImplicit false
set_option maxHeartbeats 4000000
/-! for k in reversed(range(n)); 'c'.join(..).replace('x', 'y'). -/
namespace Zra
open PySem PySem.Spec L2 Zk PyProof.Rows
/-! ### a text walked sign by sign -/
def signsD (x : Str) : List D := x.cps.toList.map fun c => .str ⟨#[c]⟩
theorem wk_str {K : PySem.W.Frag} (x : Str) : Wk K (Its x) (signsD x) [] where
  go := fun O i H hi h _ => by unfold signsD at hi; rw [List.length_map, Array.length_toList] at hi; exact hi
  yld := fun O i H w H' e o h y he => by
    obtain ⟨rfl, c, hc, rfl⟩ := y
    unfold signsD at he
    rw [List.getElem?_map, Array.getElem?_toList, hc] at he
    cases he
    exact ⟨Evl.Ex.refl _, .str _⟩
  stop := fun O H h _ => by unfold signsD; rw [List.length_map, Array.length_toList]; exact Nat.le_refl _
def dTxt (a : DF) : DIF := fun g => (a g).bind fun x => match x with
  | .str s => some (signsD s)
  | _ => none
theorem ir_str {K : PySem.W.Frag} {te : TE} {a : DF} (ha : ER K te a) : IR K (iStr te) (dTxt a) := fun g ds h H0 Oc pins ow σ H R Q q => by
  unfold dTxt at h
  cases ea : a g with
  | none => rw [ea] at h; cases h
  | some x =>
    rw [ea, Option.bind_some] at h
    split at h
    · cases h
      refine ha g _ ea H0 Oc pins ow σ H R _ fun v H1 e1 r1 => ?_
      cases r1
      exact ⟨_, rfl, q _ H1 [] e1 (fun p hp => by cases hp) (wk_str _)⟩
    · cases h
/-! ### < of ints or of texts -/
def ltA : D → D → Option D
  | .int i, .int j => some (.bl (decide (i < j)))
  | .str i, .str j => some (.bl (Zj.ltTf i j))
  | _, _ => none
/-! ### a sum of lists as a new own list -/
section
variable {K : PySem.W.Frag} {ta tb : TE} {a b : DF}
end
end Zra
end

section
set_option Elab.async false
set_option linter.all false
set_option maxRecDepth 100000
set_option autoImplicit false
set_option maxHeartbeats 4000000
/-! x in NAME, NAME a module's own tuple of texts. -/
namespace Zrc
open PySem PySem.Spec L2 Zk PyProof.Rows
def inKD (ts : List Str) : D → Option D
  | .str s => some (.bl (ts.any fun z => z == s))
  | _ => none
section
variable {K : PySem.W.Frag} {te : TE} {a : DF}
theorem inV_str (s : Str) : ∀ ts : List Str, inV (.str s) (ts.map V.str) = ts.any fun z => z == s
  | [] => rfl
  | t :: ts => by
    have ih := inV_str s ts
    unfold inV at ih ⊢
    rw [List.map_cons, List.any_cons, List.any_cons, ih]
    rfl
theorem flat_str : ∀ ts : List Str, (ts.map V.str).all flatV = true
  | [] => rfl
  | t :: ts => flat_str ts
/-- the tuple of K that holds these texts -/
theorem sqT_K {k : Addr} {od : Option Addr} {its : Array Value} {n : Nat} {sl : Array (Option Value)} {ts : List Str} (h : K.lookup k = some ⟨.type "tuple", od, .seq its n, sl⟩) (hz : its.size ≤ sizeLine) (hv : Vals (ts.map V.str) its.toList) : ∀ G : Hp, SqT K G k (ts.map V.str) := fun G => .inr ⟨_, its, n, h, rfl, rfl, hz, hv⟩
theorem er_inK {k : Addr} {ts : List Str} (hS : ∀ G : Hp, SqT K G k (ts.map V.str)) (ha : ER K te a) : ER K (tOp (rIn K false) te (tC (.ref k))) (d1 (inKD ts) a) := fun g d h H0 Oc pins ow σ H R Q q => by
  unfold d1 at h
  cases ea : a g with
  | none => rw [ea] at h; cases h
  | some x =>
    rw [ea] at h
    refine ha g x ea H0 Oc pins ow σ H R _ fun v H1 e1 r1 => ?_
    show rIn K false v (.ref k) H1 Q
    cases x with
    | str s =>
      cases h
      cases r1
      refine ⟨k, ts.map V.str, rfl, .inr (hS H1), rfl, flat_str ts, ?_⟩
      rw [if_neg Bool.false_ne_true, inV_str]
      exact q _ H1 e1 (.bl _)
    | _ => cases h
end
end Zrc
end

section
set_option Elab.async false
set_option linter.all false
set_option maxRecDepth 100000
set_option autoImplicit false
set_option maxHeartbeats 4000000
/-! NAME.get(x), NAME a module's own dict from texts to ints. -/
namespace Zrd
open PySem PySem.Spec L2 Zk PyProof.Rows
def kkv (kvs : List (Str × Int)) : List (L2.Key × V) := kvs.map fun p => (.inr p.1, .int p.2)
def getV (kvs : List (Str × Int)) (s : Str) : V := (valV (kkv kvs) (.inr s)).getD .non
def fndD : List (Str × Int) → Str → D
  | [], _ => .non
  | p :: r, s => if p.1 = s then .int p.2 else fndD r s
def getKD (kvs : List (Str × Int)) : D → Option D
  | .str s => some (fndD kvs s)
  | _ => none
def tGetK (kvs : List (Str × Int)) (ty : TE) : TE := fun σ H Q => ty σ H fun y H2 => ∃ s, y = .str s ∧ Q (getV kvs s) H2
/-- K holds this dict at k -/
def DK (K : PySem.W.Frag) (w : World) (k : Addr) (kvs : List (Str × Int)) : Prop := (k == sysModules) = false ∧ ∀ (P : Program) (h : Heap), K.In h → ∃ vs, KV (kkv kvs) vs ∧ h.DictOf (mixKind P w) k vs
theorem pe_getK {X : Cx} {o e : Expr} {apos cpos : Pos} {ty : TE} {k : Addr} {kvs : List (Str × Int)} (hD : DK X.K X.w k kvs) (ho : PE X o (tC (.ref k))) (he : PE X e ty) (m : M1 X o "get" apos e cpos) : PE X (.Call (.Attribute o "get" apos) [e] [] cpos) (tGetK kvs ty) := by
  refine ⟨fun pins s σ H Q I h => ?_⟩
  refine wpAny_Call_method m.base m.few m.line PySem.F.plainAttrs_dict PySem.F.slot_dict_get PySem.F.type_dict_get (thn (ho.run pins s σ H (fun x H1 => x = .ref k ∧ ty σ H1 fun y H2 => ∃ s, y = .str s ∧ Q (getV kvs s) H2) I ⟨rfl, h⟩) fun u s1 ⟨x, H1, I1, rx, ex, q1⟩ => ?_)
  subst ex
  obtain rfl : u = Value.ref k := rx
  obtain ⟨vs, rel, dd⟩ := hD.2 X.prog s1.heap I1.kIn
  have d2 := dd
  refine ⟨dd.typeIs, fun b q => ?_, ?_⟩
  · cases q
    obtain ⟨ob, _, _, h1, h2, _⟩ := d2
    exact ⟨ob, h1, h2.2.1⟩
  rw [m.trees]
  refine Calls.callWith_builtin rfl (Calls.evalArgs_plain (Calls.spliced_cons (thn (he.run pins s1 σ H1 _ I1 q1) fun iv s2 ⟨y, H2, I2, ry, st, ey, q2⟩ => Calls.spliced_nil ?_)))
  subst ey
  obtain ⟨vs2, rel2, dd2⟩ := hD.2 X.prog s2.heap I2.kIn
  refine call_meetsIn PySem.F.slot_dict_get dd2.typeIs PySem.F.entry_dict_get (PySem.F.args_dict_get_2 _ _) (meets_dict_get (mixKind X.prog X.w) k (kV_is (k := .inr st) ry) hD.1) ⟨_, dd2.mapOf, ⟨_, H2, I2.tok _, ?_, q2⟩⟩
  exact (rel2.val (.inr st)).getD rfl
section
variable {K : PySem.W.Frag} {te : TE} {a : DF}
theorem get_rp {O : Addr → Prop} {H : Hp} (s : Str) : ∀ kvs : List (Str × Int), Rp K O H (getV kvs s) (fndD kvs s)
  | [] => .non
  | p :: r => by
    have ih := get_rp (O := O) (H := H) s r
    unfold getV at ih ⊢
    show Rp K O H ((valV ((Sum.inr p.1, V.int p.2) :: kkv r) (.inr s)).getD .non) (if p.1 = s then D.int p.2 else fndD r s)
    by_cases e : p.1 = s
    · rw [if_pos e]
      rw [show valV ((Sum.inr p.1, V.int p.2) :: kkv r) (.inr s) = some (.int p.2) by unfold valV; simp [e]]
      exact .int _
    · rw [if_neg e]
      rw [show valV ((Sum.inr p.1, V.int p.2) :: kkv r) (.inr s) = valV (kkv r) (.inr s) by unfold valV; simp [e]]
      exact ih
theorem er_getK {kvs : List (Str × Int)} (ha : ER K te a) : ER K (tGetK kvs te) (d1 (getKD kvs) a) := fun g d h H0 Oc pins ow σ H R Q q => by
  unfold d1 at h
  cases ea : a g with
  | none => rw [ea] at h; cases h
  | some x =>
    rw [ea] at h
    refine ha g x ea H0 Oc pins ow σ H R _ fun v H1 e1 r1 => ?_
    cases x with
    | str s =>
      cases h
      cases r1
      exact ⟨s, rfl, q _ H1 e1 (get_rp s kvs)⟩
    | _ => cases h
end
/-- the entries of such a dict -/
inductive EnT (w : World) : List DictEntry → List (Str × Int) → Prop
  | nil : EnT w [] []
  | cons {s : Str} {v : Int} {h : Int} {t u : Tok} {es : List DictEntry} {kvs : List (Str × Int)} (e : h = hashStr w s) (r : EnT w es kvs) : EnT w (⟨h, .str s t, .int v u⟩ :: es) ((s, v) :: kvs)
theorem EnT.keys {P : Program} {w : World} : ∀ {es : List DictEntry} {kvs : List (Str × Int)}, EnT w es kvs → ∀ e ∈ es, ∃ k, (mixKind P w).is k e.key = true ∧ e.hash = (mixKind P w).hash k
  | _, _, .nil, e, m => by cases m
  | _, _, .cons (s := s) (t := t) h r, e, m => by
    rcases List.mem_cons.mp m with z | z
    · subst z
      exact ⟨.inr s, keyIs_str s t, h⟩
    · exact r.keys e z
theorem EnT.pairs {P : Program} {w : World} : ∀ {es : List DictEntry} {kvs : List (Str × Int)}, EnT w es kvs → ∃ vs, KV (kkv kvs) vs ∧ Pairs (mixKind P w) es vs ∧ vs.map (·.1) = kvs.map fun p => (Sum.inr p.1 : L2.Key)
  | _, _, .nil => ⟨[], .nil, .nil, rfl⟩
  | _, _, .cons (s := s) (v := v) (t := t) (u := u) h r => by
    obtain ⟨vs, h1, h2, h3⟩ := r.pairs (P := P)
    exact ⟨(.inr s, .int v u) :: vs, .cons ⟨rfl, ⟨u, rfl⟩⟩ h1, .cons (keyIs_str s t) rfl h2, by rw [List.map_cons, List.map_cons, h3]⟩
theorem dk_K {K : PySem.W.Frag} {w : World} {k : Addr} {n : Nat} {es : Array DictEntry} {kvs : List (Str × Int)} (hl : K.lookup k = some ⟨.type "dict", none, .dict es n, #[]⟩) (h0 : (k == sysModules) = false) (he : EnT w es.toList kvs) (hn : (kvs.map (·.1)).Nodup) : DK K w k kvs := by
  refine ⟨h0, fun P h hK => ?_⟩
  obtain ⟨vs, h1, h2, h3⟩ := he.pairs (P := P)
  refine ⟨vs, h1, _, es, n, hK k _ hl, ⟨rfl, rfl, rfl⟩, rfl, fun e m => he.keys (P := P) e (Array.mem_toList_iff.mpr m), h2, ?_⟩
  rw [h3]
  show (kvs.map (Sum.inr ∘ fun p : Str × Int => p.1)).Nodup
  rw [← List.map_map]
  exact List.pairwise_map.mpr (hn.imp fun h z => h (Sum.inr.inj z))
/-! str(x), x an int or a text -/
abbrev rStrA : List V → Hp → VK → Prop := fun xs H Q => (∃ i, xs = [.int i] ∧ i.natAbs.log2 < 1920 ∧ Q (.str (toString i)) H) ∨ ∃ a, xs = [.str a] ∧ Q (.str a) H
theorem call_strA {X : Cx} : CallR X (.type "str") rStrA := by
  intro pins s σ H vs us Q I r h
  rcases h with h | h
  · exact call_str_int pins s σ H vs us Q I r h
  · exact SkE.call_str_str pins s σ H vs us Q I r h
def strAD : List D → Option D
  | [.int i] => if i.natAbs.log2 < 1920 then some (.str (toString i)) else none
  | [.str s] => some (.str s)
  | _ => none
theorem rc_strA {K : PySem.W.Frag} : RC K rStrA strAD := fun xs d h O H vs o r Q q => by
  unfold strAD at h
  split at h
  · split at h
    · rename_i hl
      cases h
      cases r with
      | cons r rr =>
        cases rr
        cases r
        exact .inl ⟨_, rfl, hl, rr_fin q (.str _)⟩
    · cases h
  · cases h
    cases r with
    | cons r rr =>
      cases rr
      cases r
      exact .inr ⟨_, rfl, rr_fin q (.str _)⟩
  · cases h
end Zrd
end

section
set_option Elab.async false
set_option linter.all false
set_option maxRecDepth 100000
set_option autoImplicit false
set_option maxHeartbeats 4000000
/-! A try whose first except clause, with a name, takes all that is raised; further clauses follow. -/
namespace Zre
open PyProof.Rows hiding St
open PySem PySem.Spec L2 Zk
theorem ps_first {X : Cx} {x n : Str} {c : Value} {i : Nat} {body suite : List Stmt} {b0 : Stmt} {hds : List ExceptHandler} {np pos pos' : Pos} {tb : WX → TS} {ts : Addr → Value → Option Addr → TS}
    (h1 : X.stack = X.env :: X.outer) (h2 : X.env.frame = some X.env.locals) (h3 : X.N.Nodup) (h4 : X.N[i]? = some n) (h5 : X.env.kindOf n = some NameKind.local) (h6 : Names X x c)
    (h7 : ∀ (W : WX) (pn : List (Addr × Obj)) (xe : Value → Shared → Prop), L2N.Takes (X.tr pn xe) W → PassesOwn (model X.prog X.w) X.A X.env xe → PSs (X.tr pn xe) body (tb W))
    (h8 : ∀ (a : Addr) (oe : Obj) (cls : Value) (d : Option Addr) (pn : List (Addr × Obj)), L2N.Zn cls d oe → (∃ vs, oe.data = Data.fields vs) → PSs (X.suite a ((a, oe) :: pn)) (b0 :: suite) (ts a cls d)) :
    PS X (.Try body (.ExceptHandler (some (.Name x np)) (some n) (b0 :: suite) pos' :: hds) [] [] pos) (fun D σ H => tb (wAs X.K c i ts (fun _ _ _ _ => False) D) D σ H) := by
  refine ⟨fun pins s σ H D I h => ?_⟩
  have ok := I.ok
  have fr : X.A.frames = some (X.env :: X.outer) := by rw [ok.frames, h1]
  refine wpAny_Try_except (wpAny_mono ((h7 _ (X.pn ++ pins) _ ?_ PassesOwn.looking).run [] s σ H D (I.toTry _) h) (fun f s1 z => ?_) (fun e s1 z => z))
  · rintro u s' ⟨a, B, sI, pins', σ', H', cls, d, rfl, J', nb, up, sky, na, os, ag, b, eb, yes, no⟩
    have J := Inv.ofTry J' ok
    cases b with
    | false => exact (no rfl).elim
    | true =>
      rw [show (X.tr (X.pn ++ pins) _).stack = X.env :: X.outer from h1] at sky
      refine L2N.Sky.land L2N.Zn.steady fr h2 sky fun g3 l3 u3 => ?_
      have J3 := Inv.landed (s' := { s' with heap := g3 }) J nb l3.left (up.trans u3) os ag
      obtain ⟨o3, v3, y3, z3, d3⟩ := l3.there
      have nfr : a ∉ List.filterMap (fun x => x.frame) (X.env :: X.outer) := fun m => by
        obtain ⟨-, o', e', q⟩ := l3.right.right.left.mem m
        have e'' := y3.symm.trans e'
        injection e'' with e''
        exact q v3 (e'' ▸ d3)
      have nL : a ≠ X.env.locals := fun z => nfr (List.mem_filterMap.mpr ⟨X.env, List.mem_cons_self, by rw [h2, z]⟩)
      have nF : a ∉ X.fs := fun m => by
        obtain ⟨e, m1, m2⟩ := List.mem_filterMap.mp m
        exact nfr (List.mem_filterMap.mpr ⟨e, List.mem_cons_of_mem _ m1, m2⟩)
      have S3 := Inv.suite J3 y3 d3 na nL nF
      refine wpAny_handleBy_cons (codeAny_handlers_test ?_) (fun q => nomatch q)
      have LM := W.exm_one (M := model X.prog X.w) (Inv.kIn J3) (fun A Q E s k q => wpAny_typeOf_ref (k a o3 y3) (z3.left ▸ q)) eb
      have tst : ∀ {Q : Value → Shared → Prop} {E}, Q c _ → wpAny (model X.prog X.w) (X.suite a ((a, o3) :: (X.pn ++ pins))).A (eval (.Name x np) X.env) Q E _ := fun {Q E} q => by
        obtain ⟨g1, g2, g3 | ⟨g3, g4, g5⟩⟩ := h6
        · exact ld_glob S3 g1 g3 q g2
        · exact ld_blt S3 g1 g3 g4 q g5 g2
      refine tst (W.Looks.here LM ?_)
      refine codeAny_handlers_suite_as (HandSPX.lands_againZ l3 fun g4 l4 u4 => ?_)
      have J4 := Inv.landed (s' := { s' with heap := g4 }) J nb l4.left ((up.trans u3).trans u4) os ag
      obtain ⟨o4, v4, y4, z4, d4⟩ := l4.there
      have S4 := Inv.suite J4 y4 d4 na nL nF
      refine store_ok (X := X.suite a ((a, o4) :: (X.pn ++ pins))) (v := V.ref a) S4 h3 h4 (.inl h5) rfl (fun s5 S5 => ?_) (.inr h5)
      refine wpAny_mono ((h8 a o4 cls d (X.pn ++ pins) z4 ⟨v4, d4⟩).run [] s5 _ H' _ S5 (yes rfl a na)) (fun f s6 z => ?_) (fun _ _ z => z.elim)
      cases f with
      | next => obtain ⟨σ6, H6, S6, q6⟩ := z; exact gone_ok (Inv.unsuite S6 ok) h3 h4 h5 fun s7 J7 => ⟨_, H6, J7, q6⟩
      | brk => obtain ⟨σ6, H6, S6, q6⟩ := z; exact gone_ok (Inv.unsuite S6 ok) h3 h4 h5 fun s7 J7 => ⟨_, H6, J7, q6⟩
      | cont => obtain ⟨σ6, H6, S6, q6⟩ := z; exact gone_ok (Inv.unsuite S6 ok) h3 h4 h5 fun s7 J7 => ⟨_, H6, J7, q6⟩
      | ret u => obtain ⟨v6, σ6, H6, S6, r6, q6⟩ := z; exact gone_ok (Inv.unsuite S6 ok) h3 h4 h5 fun s7 J7 => ⟨v6, _, H6, J7, r6, q6⟩
  · cases f with
    | next => obtain ⟨σ', H', J', q⟩ := z; exact wpAny_execs_nil ⟨σ', H', Inv.ofTry J' ok, q⟩
    | brk => obtain ⟨σ', H', J', q⟩ := z; exact ⟨σ', H', Inv.ofTry J' ok, q⟩
    | cont => obtain ⟨σ', H', J', q⟩ := z; exact ⟨σ', H', Inv.ofTry J' ok, q⟩
    | ret u => obtain ⟨v, σ', H', J', r, q⟩ := z; exact ⟨v, σ', H', Inv.ofTry J' ok, r, q⟩
theorem next_list_hot {prog : Program} {w : World} {A : Around} {E : Value → Shared → Prop} {s : Shared} {it l x1 : Addr} {i : Nat} {items : Array Value} {Q : Option Value → Shared → Prop}
    (hot : HotX.HotAt A x1 s.heap) (hit : s.heap.IsListIter it l i) (hl : s.heap.IsList l items) (hx : items[i]? = none) (hne : it ≠ x1)
    (hQ : ∀ h' : Heap, (∀ (b : Addr) (o : Obj), b ≠ it → s.heap.get? b = some o → h'.get? b = some o) → Q none { s with heap := h' }) : wpAny (model prog w) A (pyNext (.ref it)) Q E s := by
  obtain ⟨o, ho, hc, hd⟩ := id hit
  obtain ⟨ol, hol, hcl, nl, hdl⟩ := hl
  obtain ⟨hh, o1, v1, g1, d1, c1⟩ := hot
  unfold pyNext
  refine wpAny_bind (wpAny_attempt (wpAny_callSpecial?_slot hit.typeIs slot_listiter_next (wpAny_call_entry slot_listiter_next hit.typeIs entry_listiter_next ?_ (args_listiter_next (.ref it)))))
  refine wpAny_bind (wpAny_of_eq (show slotArgs "__next__" 0 { pos := [Value.ref it] } = pure (Value.ref it, []) from rfl) ?_)
  dsimp only
  refine wpAny_bind (wpAny_field ho hd rfl ?_)
  rw [if_neg (by simp)]
  refine wpAny_bind (wpAny_field ho hd rfl ?_)
  refine wpAny_bind (wpAny_seqItems hol hdl ?_)
  dsimp only
  rw [show items[(i : Int).toNat]? = none from hx]
  dsimp only
  refine wpAny_bind (wpAny_rule ?_)
  refine wpAny_bind (wpAny_setField ho hd (by simp) ?_)
  unfold Builtin.SmallTypes.stopIteration
  refine wpAny_bind ?_
  unfold newExc
  have hx1 : ∀ (f : Obj → Obj), (s.heap.update it f).get? x1 = some o1 := fun f => by rw [Heap.get?_update_other _ _ hne]; exact g1
  refine wpAny_bind (wpAny_newObj_type (wpAny_bind (wpAny_of_eq (show firstArgMember (Value.type "StopIteration") [] = pure _ from rfl) (wpAny_newObj_type ?_ ?_))) ?_)
  · refine HotX.raiseNew_hot ⟨hh, o1, v1, Heap.get?_push_of_some _ (Heap.get?_push_of_some _ (hx1 _)), d1, c1⟩ (Nat.ne_of_lt (Heap.lt_size (Heap.get?_push_of_some _ (hx1 _)))) (Heap.get?_push_size _ rfl) rfl ?_ ?_
    · rw [Array.size_append]
      simp
      omega
    · refine wpAny_bind (wpAny_isInstance ⟨_, Heap.get?_update_self _ (Heap.get?_push_size _ rfl) rfl, rfl⟩ isSubtype_stop ?_)
      rw [if_pos rfl]
      refine wpAny_pure (hQ _ fun b o hb e => ?_)
      have e1 : (s.heap.update it (Obj.mapFields fun x => x.setIfInBounds 0 Value.none)).get? b = some o := by rw [Heap.get?_update_other _ _ hb.symm]; exact e
      have e2 := Heap.get?_push_of_some { cls := Value.type "tuple", data := Data.seq #[] } e1
      rw [Heap.get?_update_other _ _ (Nat.ne_of_gt (Heap.lt_size e2))]
      exact Heap.get?_push_of_some _ e2
  · exact sizeOk_excFields _ _ _ _ _ _ _ _
  · show (#[] : Array Value).size ≤ sizeLine
    rw [sizeLine_eq]
    decide
open L2H in
theorem turn_listH {P : Program} {w : World} {K : PySem.W.Frag} {tg : Expr} (a it : Addr) : TurnH P w K tg (Itl K a) [it] it fun i h => h.IsListIter it a i := by
  have T := turn_list (P := P) (w := w) (K := K) (tg := tg) a it
  refine ⟨T.mem, T.obj, T.keep, ?_, ?_, T.self⟩
  · rintro X rfl rfl rfl hc i pins s σ H E I hf st ⟨xs, x, hq, hx⟩
    obtain ⟨its, rv, p, hz⟩ := Inv.list I hq
    obtain ⟨u, hu, ru⟩ := Vals.get rv hx
    obtain ⟨f0, f1, f2, f3, f4, f5⟩ := hf it (by simp)
    refine wpAny_pyNext_list_item st p.isList (by rw [List.getElem?_toArray]; exact hu) fun h' st' sb => ?_
    have I1 := Inv.turned (t' := s.toks) I (fun b o hb e => (sb.right b hb).trans e) f0 f1 f3 f4 f5
    obtain ⟨o, e, c, d⟩ := id st'
    exact ⟨u, rfl, go_of e c d rfl ⟨x, H, I1, ru, ⟨rfl, fun ys hy => by rw [Inv.list_inj I hy hq]; exact hx⟩, st', fun b hb => (hf b hb).left⟩⟩
  · rintro X rfl rfl rfl hc i pins s σ H E I hf st ⟨xs, hq, hx⟩
    obtain ⟨its, rv, p, hz⟩ := Inv.list I hq
    obtain ⟨f0, f1, f2, f3, f4, f5⟩ := hf it (by simp)
    have hl := rv.length
    obtain ⟨q, ⟨hh, v1, e1, c1⟩, hq1⟩ := hc
    have hq2 := List.mem_append_left pins hq1
    refine next_list_hot (x1 := q.1) ⟨hh, q.2, v1, (I.pin q hq2).left, e1, c1⟩ st p.isList (by rw [List.getElem?_toArray]; exact List.getElem?_eq_none (by omega)) (fun z => f5 q hq2 z.symm) fun h' eb => ?_
    exact ⟨rfl, Inv.turned I (fun b o hb e => eb b o hb e) f0 f1 f3 f4 f5⟩
open L2H in
theorem pi_listH {X : Cx} {tg l : Expr} {tl : TE} (hl : PE X l tl) : PIH X tg l (iList X.K tl) := by
  constructor
  intro pins s σ H R I h
  refine thn (hl.run pins s σ H _ I h) fun v s1 z => ?_
  obtain ⟨x, H1, I1, r1, a, rfl, ⟨xs, hq⟩, q⟩ := z
  cases r1
  obtain ⟨its, rv, p, hz⟩ := Inv.list I1 hq
  refine wpAny_pyIter_list p.isList ⟨s1.heap.objs.size, [s1.heap.objs.size], fun i h => h.IsListIter s1.heap.objs.size a i, Itl X.K a, H1, rfl, ?_, turn_listH a _, ?_, ?_, q⟩
  · exact Inv.kept I1 fun b o e => Heap.get?_push_of_some _ e
  · exact ⟨_, Heap.get?_push_size _ rfl, rfl, rfl⟩
  · intro b hb
    rw [List.mem_singleton.mp hb]
    exact Inv.fpOk I1 (Nat.le_refl _) (I1.hok.fresh (Nat.le_refl _))
def dItemsL (a : DF) : DIF := fun g => match a g with
  | some (.lst ds) => some ds
  | _ => none
theorem ir_lstO {K : PySem.W.Frag} {te : TE} {a : DF} (ha : ER K te a) : IR K (iList K te) (dItemsL a) := fun g ds h H0 Oc pins ow σ H R Q q => by
  unfold dItemsL at h
  split at h
  · rename_i ea
    cases h
    refine ha g _ ea H0 Oc pins ow σ H R _ fun v H1 e1 r1 => ?_
    have r0 := r1
    cases r1 with
    | @lst a xs _ n e r => exact ⟨a, rfl, ⟨_, .of e⟩, q _ H1 _ e1 (fun p hp => by rw [List.mem_singleton.mp hp]; exact r0) (wk_list rfl rfl fun O H r => by cases r with | lst n e r => exact ⟨_, .of e, r⟩)⟩
  · cases h

theorem hotS {X : Cx} {a : Addr} {oe : Obj} {pn : List (Addr × Obj)} {cls : Value} {d : Option Addr} (h : L2N.Zn cls d oe) (hf : ∃ vs, oe.data = Data.fields vs) : L2H.HotC (X.suite a ((a, oe) :: pn)) := by
  obtain ⟨vs, e⟩ := hf
  exact ⟨(a, oe), ⟨rfl, vs, e, h.2.2 vs e⟩, List.mem_cons_self⟩
/-! ### an error of one's own with fields, made where nothing is handled -/
theorem pmkN {X : Cx} {e : Expr} {es : List Expr} {ta : TA} {p pos : Pos} {CX : CXT} {x : Str} {C fI : Addr} {k : Nat} {fd : FuncData} {ps : List Str} {sp : Sp}
    (T : OexC X.K C) (iC : PySem.W.findIn X.K (.ref C) "__init__" = some (some (.ref fI))) (tI : PySem.W.typeIn X.K (.ref fI) = some (.type "function")) (F1 : FnOk X.prog X.w X.K X.mg X.base CX k fI fd ps sp) (hr : Room (k + 1) X.A)
    (hb : Binds X.K fd ps []) (hx : Passes CX X fun _ _ _ => False) (hg : Gl X x) (hm : X.mg x = some (.ref C)) (ha : PA X (e :: es) ta)
    (hdb : (x == Str.ofString "__debug__") = false := by decide) (he : starEach (e :: es) X.env = (false, eval e X.env) :: starEach es X.env := by rfl) (hpl : ((backTo pos (starEach es X.env)).any fun x => x.fst) = false := by rfl) :
    L2N.PMk X (.Call (.Name x p) (e :: es) [] pos) (tMkO C sp [] ta) := by
  intro pins s σ H Q I h
  obtain ⟨nm, q, N, bs, bm, sn, sub, ab, col, dd, k0, k1, k2, k3, k5, hC, hbm⟩ := T.cls
  refine wpAny_Call_Name_kw (ld_glob I hg hm (PySem.W.callWith_K I.ok.mod.kin T.kC (thn (ha.run pos pins s σ H _ I h) ?_) he hpl) hdb)
  rintro us s1 ⟨vs, H1, I1, r1, hz, q1⟩
  refine ⟨I1.kIn, ?_⟩
  obtain ⟨hp, g, dr, tk, os⟩ := s1
  have hsz := Nat.le_succ hp.objs.size
  have hq := q1 (hp.objs.size + 1) (I1.hok.fresh hsz)
  have kk : ∀ (b : Addr) (o : Obj), hp.get? b = some o → ((hp.push (PySem.W.kdv_tup us)).push (HandSPX.excO C hp.objs.size)).get? b = some o := fun b o e => Heap.get?_push_of_some _ (Heap.get?_push_of_some _ e)
  have hget : ((hp.push (PySem.W.kdv_tup us)).push (HandSPX.excO C hp.objs.size)).get? (hp.objs.size + 1) = some (HandSPX.excO C hp.objs.size) := Heap.get?_push_at (by rw [Heap.size_push]) rfl
  have I2 := Inv.laid (t' := tk) I1 kk hsz (exo_ok hget)
  have r2 : Vals (V.ref (hp.objs.size + 1) :: (vs ++ [])) (Value.ref (hp.objs.size + 1) :: (us ++ [])) := Paired.cons rfl (Vals.append r1 Paired.nil)
  have hl := r2.length.symm.trans (F1.len _ _ _ _ hq)
  have hus : us.length ≤ sizeLine := by
    have := r1.length
    rw [sizeLine_eq]
    omega
  refine wpAny_call (HandSPX.call_own F.excBase_ValueError (fun Y => HandSPX.refsVE_contains Y bm hbm) (I1.kIn C _ hC) (PySem.W.looks_findIn I1.kIn iC) (fun self => PySem.W.bind_fn I1.kIn self tI) hus
    (codeAny_mono (F1.run _ X.stack _ _ _ _ _ _ _ (Room.make hr C us []) (Env0.make I2.env0 C us []) (hb _ _ I2.kIn hl) r2 hq) fun r s' hq' => ?_))
  cases r with
  | error er => exact hx pins σ _ _ er s' I2 hq'
  | ok fl => cases fl with
    | ret u =>
      obtain ⟨v, H2, os2, bare2, un2, hok2, rv, rfl, d, fs, ea, ed, hd1, q2⟩ := hq'
      obtain ⟨h2, g2, d2, t2, os'⟩ := s'
      refine ⟨rv, ?_⟩
      obtain ⟨t0, G, J, kG, ge, hoe, na⟩ := mk_end0 (d2 := d2) (t2 := t2) I1 hsz kk un2 hok2 os2 bare2 ea ed hd1
      exact ⟨_, _, _, _, _, _, _, rfl, J, kG, ge, hoe, ⟨rfl, rfl, fun vs e => by cases e; rfl⟩, rfl, rfl, na, rfl, bare2, raises_own T.exC T.tyC, q2⟩
    | next => exact hq'.elim
    | brk => exact hq'.elim
    | cont => exact hq'.elim
section
open Zr
variable {P : Program} {w : World} {K : PySem.W.Frag} {mg : Str → Option Value} {base : Heap}
theorem fnXN {x qual : Str} {st : Stmt} {f : Addr} {fd : FuncData} {N ps : List Str} {k n m : Nat} {xf : XF} (F : Fun K x qual st f fd) (S : FnScope N ps (defScope st)) (hn : n = ps.length) (hm : N.length = n + m)
    (hb : ∀ (cdv : Value) (A : Around) (outer : List Env) (s : Shared) (H : Hp) (E : XK), Room k (A.deeper (envOfC qual (defScope st) s.heap.objs.size f cdv)) → L2N.Takes (cxOf (L2N.CX P w) P w K mg base N qual (defScope st) f cdv A outer s H E) (fun cls d _ H => E cls d H) →
      ∃ ts, PSs (cxOf (L2N.CX P w) P w K mg base N qual (defScope st) f cdv A outer s H E) (defBody st) ts ∧ XS K (fun cls d _ H => E cls d H) ts xf) : FnOk P w K mg base (L2N.CX P w) (k + 1) f fd ps (spX K n (runX m xf)) := by
  subst hn
  obtain ⟨oc, od, kV, doc, pm, an, cdv, ct, osl, rfl, lk, hcd⟩ := F.ex
  refine fn_of lk hcd S (fun vs H Q E h => ?_) fun A outer s H vs Q E hr hsp => ?_
  · obtain ⟨_, _, _, h, _⟩ := h
    exact h
  · obtain ⟨Oc, ds, c, hl, oc, r, hg, q⟩ := hsp
    obtain ⟨ts, hts, hs⟩ := hb cdv A outer s H E hr (L2N.takes_of rfl rfl rfl rfl)
    refine ⟨ts, hts, ?_⟩
    have R := reps_start oc N r (m := m) (by rw [hl]; exact hm)
    unfold runX at hg
    cases e : xf (ds.map (fun d => some (.v d)) ++ List.replicate m none) with
    | none => rw [e] at hg; cases hg
    | some z =>
      rw [e] at hg
      cases hg
      exact hs _ _ e H Oc _ noOw _ H R (fun ow' σ' H' dd fs R' _ h0 hd rf => q H' dd fs R'.ex h0 hd (rf.kp (kp_oc Oc ow' H'))) _
end
/-! ### s.split(t) as a list of one's own -/
open Zj in
theorem eo_split {K : PySem.W.Frag} {to te : TE} {a b : DF} (ha : ER K to a) (hb : ER K te b) : EO K (tM1 rSplit to te) (dM1 splitD a b) := fun g d h H0 Oc pins ow σ H R Q q => by
  unfold dM1 at h
  cases ea : a g with
  | none => rw [ea] at h; cases h
  | some x =>
    rw [ea, Option.bind_some] at h
    split at h
    · rename_i s
      cases eb : b g with
      | none => rw [eb] at h; cases h
      | some y =>
        rw [eb, Option.bind_some] at h
        unfold splitD at h
        split at h
        · split at h
          · rename_i hs
            cases h
            refine ha g _ ea H0 Oc pins ow σ H R _ fun v H1 e1 r1 => ?_
            cases r1
            refine ⟨⟨_, rfl⟩, hb g _ eb H0 Oc pins ow σ H1 (R.grow e1) _ fun w H2 e2 r2 => ?_⟩
            cases r2
            exact ⟨s, _, rfl, rfl, hs.1, by rw [sizeLine_eq]; omega, fun p hp => q _ _ ((e1.trans e2).trans (Evl.Ex.new hp)) (Evl.fresh_back (e1.trans e2) hp) ⟨_, upd_same, RpA.ofStrs _⟩⟩
          · cases h
        · cases h
    · cases h
end Zre
end

section
set_option Elab.async false
set_option linter.all false
set_option maxRecDepth 100000
set_option maxHeartbeats 4000000
namespace Y
open PySem L2 Zk
noncomputable section
abbrev top (i : Nat) : Stmt := PySem.Challenge.pw_pairwarden_k31_commands_there_and_back.main.body.getD i (.Pass ⟨0, 0, 0, 0⟩)
abbrev s_is_name : Stmt := top 8
abbrev N_is_name : List Str := ["word", "char"]
abbrev s_is_number : Stmt := top 9
abbrev N_is_number : List Str := ["word"]
abbrev s_joined : Stmt := top 10
abbrev N_joined : List Str := ["numbers", "number"]
abbrev s_read_joined : Stmt := top 11
abbrev N_read_joined : List Str := ["word", "parts", "part"]
abbrev s_command_line : Stmt := top 16
abbrev N_command_line : List Str := ["command", "part"]
abbrev s_parse_line : Stmt := top 17
abbrev N_parse_line : List Str := ["line", "command"]
abbrev s_read_line : Stmt := top 18
abbrev N_read_line : List Str := ["line", "word", "_", "rest", "parts", "part"]
abbrev s_read_put : Stmt := top 19
abbrev N_read_put : List Str := ["rest", "head", "colon", "text", "name", "sign", "seats", "at"]
abbrev s_put_line : Stmt := top 20
abbrev N_put_line : List Str := ["command", "_", "name", "at", "text", "seats"]
abbrev s_law_cell : Stmt := top 22
abbrev N_law_cell : List Str := ["script", "k"]
abbrev s_law_draws : Stmt := top 23
abbrev N_law_draws : List Str := ["cell", "sizes", "left", "digits", "drawn", "k", "size", "mixed"]
abbrev s_law_sign : Stmt := top 24
abbrev N_law_sign : List Str := ["number", "signs"]
abbrev s_law_text : Stmt := top 25
abbrev N_law_text : List Str := ["cell", "size", "drawn", "k"]
abbrev s_law_names : Stmt := top 26
abbrev N_law_names : List Str := ["cell", "drawn", "signs", "stem", "names", "k", "spot"]
abbrev s_law_is_integer : Stmt := top 27
abbrev N_law_is_integer : List Str := ["actual"]
abbrev s_law_command : Stmt := top 28
abbrev N_law_command : List Str := ["drawn", "names", "text", "cell", "kinds", "kind", "name", "seats", "number", "cap", "count", "k"]
abbrev s_law_line : Stmt := top 29
abbrev N_law_line : List Str := ["command", "part", "seat"]
abbrev s_law_integer : Stmt := top 30
abbrev N_law_integer : List Str := ["text", "sign"]
abbrev s_law_is_name : Stmt := top 31
abbrev N_law_is_name : List Str := ["text", "sign"]
abbrev s_law_put_reading : Stmt := top 32
abbrev N_law_put_reading : List Str := ["rest", "end", "head", "seats", "word"]
abbrev s_law_reading : Stmt := top 33
abbrev N_law_reading : List Str := ["line", "words", "count", "numbers", "word"]
abbrev s_law_odd_part : Stmt := top 34
abbrev N_law_odd_part : List Str := ["number", "odd"]
abbrev s_law_odd_line : Stmt := top 35
abbrev N_law_odd_line : List Str := ["number", "odd"]
abbrev s_law_odd_seats : Stmt := top 36
abbrev N_law_odd_seats : List Str := ["number", "odd", "seats"]
abbrev s_law_replaced : Stmt := top 37
abbrev N_law_replaced : List Str := ["command", "line", "odd", "which", "words", "begun"]
abbrev s_law_other_line : Stmt := top 38
abbrev N_law_other_line : List Str := ["command", "line", "cell", "drawn", "spot", "sign", "word"]
abbrev s_law_alike : Stmt := top 39
abbrev N_law_alike : List Str := ["told", "due", "k"]
abbrev s_law_parsed : Stmt := top 40
abbrev N_law_parsed : List Str := ["line", "e", "fine", "other"]
abbrev s_law_there_and_back : Stmt := top 41
abbrev N_law_there_and_back : List Str := ["command", "line", "told", "back"]
abbrev s_law_judged : Stmt := top 42
abbrev N_law_judged : List Str := ["line", "due", "told"]
abbrev s_law : Stmt := top 43
abbrev N_law : List Str := ["script", "k", "cell", "drawn", "names", "text", "command", "line"]
abbrev sI_InvalidLine : Stmt := inClass (top 6) 0
/-- the classes -/
structure Cs where
  InvalidLine : Addr
  PoolError : Addr
  InvalidText : Addr
  InvalidSeats : Addr
  InvalidName : Addr
  Missing : Addr
  w : World
  z : Unit := ()
def t_is_name : SF :=
 (sRet (dAndV (dChain leD leD (dC (.int 1)) (dN lenD (aCons (dVar 0) aNil)) (dC (.int 12))) (dN allD (aCons (dLc (Zra.dTxt (dVar 0)) (dName 1) dYes (dOrV (dChain (Zj.onT Zj.leTf) (Zj.onT Zj.leTf) (dC (.str "a")) (dVar 1) (dC (.str "z"))) (dChain (Zj.onT Zj.leTf) (Zj.onT Zj.leTf) (dC (.str "0")) (dVar 1) (dC (.str "9")))) [1]) aNil))))
def g_is_name : PF := runG 1 (t_is_name)
def t_is_number : SF :=
 (sRet (dAndV (Zj.dM0 Zj.isdigitD (dVar 0)) (dOrV (d2 eqD (dVar 0) (dC (.str "0"))) (d1 notD (Zj.dM1 Zj.startsD (dVar 0) (dC (.str "0")))))))
def g_is_number : PF := runG 0 (t_is_number)
def t_joined : SF :=
 (sRet (Zj.dM1 Zj.joinD (dC (.str ",")) (dLc (dItems (dVar 0)) (dName 1) dYes (dN Zj.strD (aCons (dVar 1) aNil)) [1])))
def g_joined : PF := runG 1 (t_joined)
def t_read_joined : SF :=
 (sSeq (sAsg (Zj.dM1 Zj.splitD (dVar 0) (dC (.str ","))) (dName 1))
 (sRet (dIf (tDt truD (dN allD (aCons (dLc (dItems (dVar 1)) (dName 2) dYes (dCall 1 (g_is_number) (aCons (dVar 2) aNil)) [2]) aNil))) (dLc (dItems (dVar 1)) (dName 2) dYes (dN Zj.intSD (aCons (dVar 2) aNil)) [2]) (dC .non))))
def g_read_joined : PF := runG 2 (t_read_joined)
def t_put_line : SF :=
 (sSeq (sAsg (dVar 0) (dgTup 4 (dgCons (dName 1) (dgCons (dName 2) (dgCons (dName 3) (dgCons (dName 4) dgNil))))))
 (sSeq (sAsg (dIf (tDt truD (dVar 3)) (d2 addD (dC (.str "@")) (dCall 1 (g_joined) (aCons (dVar 3) aNil))) (dC (.str ""))) (dName 5))
 (sRet (Zj.dJoin ((dC (.str "put ")) :: ((d1 Zj.fmtD (dVar 2)) :: ((d1 Zj.fmtD (dVar 5)) :: ((dC (.str ":")) :: ((d1 Zj.fmtD (dVar 4)) :: [])))))))))
def g_put_line : PF := runG 5 (t_put_line)
def t_command_line : SF :=
 (sSeq (sIf (tDt blD (d2 eqD (d2 ixD (dVar 0) (dC (.int 0))) (dC (.str "put"))))
 (sRet (dCall 1 (g_put_line) (aCons (dVar 0) aNil)))
 sNext)
 (sRet (Zj.dM1 Zj.joinD (dC (.str " ")) (dLc (dItems (dVar 0)) (dName 1) dYes (dN Zrd.strAD (aCons (dVar 1) aNil)) [1]))))
def g_command_line : PF := runG 1 (t_command_line)
def t_read_put : SF :=
 (sSeq (sAsg (Zj.dM1 Zj.partD (dVar 0) (dC (.str ":"))) (dgTup 3 (dgCons (dName 1) (dgCons (dName 2) (dgCons (dName 3) dgNil)))))
 (sSeq (sAsg (Zj.dM1 Zj.partD (dVar 1) (dC (.str "@"))) (dgTup 3 (dgCons (dName 4) (dgCons (dName 5) (dgCons (dName 6) dgNil)))))
 (sSeq (sAsg (dIf (tDt truD (dVar 5)) (dCall 1 (g_read_joined) (aCons (dVar 6) aNil)) (dN mkLst aNil)) (dName 7))
 (sSeq (sIf (dOrT (dNotT (tDt truD (dVar 2))) (dOrT (dNotT (tDt truD (dCall 1 (g_is_name) (aCons (dVar 4) aNil)))) (tDt blD (d2 isD (dVar 7) (dC .non)))))
 (sRet (dC .non))
 sNext)
 (sRet (dN mkTup (aCons (dC (.str "put")) (aCons (dVar 4) (aCons (dN tupleD (aCons (dVar 7) aNil)) (aCons (dVar 3) aNil))))))))))
def g_read_put : PF := runG 7 (t_read_put)
def t_read_line (c : Cs) : SF :=
 (sSeq (sAsg (Zj.dM1 Zj.partD (dVar 0) (dC (.str " "))) (dgTup 3 (dgCons (dName 1) (dgCons (dName 2) (dgCons (dName 3) dgNil)))))
 (sSeq (sIf (tDt blD (d2 eqD (dVar 1) (dC (.str "put"))))
 (sRet (dCall 1 (g_read_put) (aCons (dVar 3) aNil)))
 sNext)
 (sSeq (sIf (tDt blD (d1 (Zrc.inKD ["names", "sends", "mend", "pack"]) (dVar 0)))
 (sRet (dN mkTup (aCons (dVar 0) aNil)))
 sNext)
 (sSeq (sIf (tDt blD (d1 (Zrc.inKD ["read", "erase"]) (dVar 1)))
 (sRet (dIf (tDt truD (dCall 1 (g_is_name) (aCons (dVar 3) aNil))) (dN mkTup (aCons (dVar 1) (aCons (dVar 3) aNil))) (dC .non)))
 sNext)
 (sSeq (sAsg (Zj.dM1 Zj.splitD (dVar 3) (dC (.str " "))) (dName 4))
 (sSeq (sIf (dOrT (tDt blD (d2 neD (dN lenD (aCons (dVar 4) aNil)) (d1 (Zrd.getKD [("send", 2), ("add", 2), ("drop", 2), ("cap", 2), ("lose", 1)]) (dVar 1)))) (dNotT (tDt truD (dN allD (aCons (dLc (dItems (dVar 4)) (dName 5) dYes (dCall 1 (g_is_number) (aCons (dVar 5) aNil)) [5]) aNil)))))
 (sRet (dC .non))
 sNext)
 (sRet (dN tupleD (aCons (d2 addD (dN mkLst (aCons (dVar 1) aNil)) (dLc (dItems (dVar 4)) (dName 5) dYes (dN Zj.intSD (aCons (dVar 5) aNil)) [5])) aNil)))))))))
def g_read_line (c : Cs) : PF := runG 5 (t_read_line c)
def t_parse_line (c : Cs) : SF :=
 (sSeq (sAsg (dIf (tDt blD (d2 (Zj.onT Zj.inTf) (dC (.str "\n")) (dVar 0))) (dC .non) (dCall 1 (g_read_line c) (aCons (dVar 0) aNil))) (dName 1))
 (sSeq (sIf (tDt blD (d2 isD (dVar 1) (dC .non)))
 sNever
 sNext)
 (sRet (dVar 1))))
def g_parse_line (c : Cs) : PF := runG 1 (t_parse_line c)
def xr_parse_line (c : Cs) : Zr.XF :=
 (Zr.xSeq (sAsg (dIf (tDt blD (d2 (Zj.onT Zj.inTf) (dC (.str "\n")) (dVar 0))) (dC .non) (dCall 1 (g_read_line c) (aCons (dVar 0) aNil))) (dName 1)) Zr.xNo
 (Zr.xSeq (sIf (tDt blD (d2 isD (dVar 1) (dC .non)))
 sNever
 sNext) (Zr.xIf (tDt blD (d2 isD (dVar 1) (dC .non)))
 (Zr.xRaise1 c.InvalidLine "text" (dVar 0))
 Zr.xNo)
 Zr.xNo))
def gr_parse_line (c : Cs) : List D → Option Zr.XV := Zr.runX 1 (xr_parse_line c)
def t_law_cell : SF :=
 (sSeq (sIf (tDt blD (d2 ltD (dVar 1) (dN lenD (aCons (dVar 0) aNil))))
 (sRet (d2 ixD (dVar 0) (dVar 1)))
 sNext)
 (sRet (dC (.int 0))))
def g_law_cell : PF := runG 0 (t_law_cell)
def t_law_draws : SF :=
 (sSeq (sAsg (dN absD (aCons (dN intD (aCons (dVar 0) aNil)) aNil)) (dName 2))
 (sSeq (sAsg (d2 geD (dVar 2) (d2 powD (dC (.int 10)) (dC (.int 18)))) (dName 3))
 (sSeq (sAsgO (dN mkLst aNil) 4)
 (sSeq (sFor (dRng1 (aCons (dN lenD (aCons (dVar 1) aNil)) aNil)) (dName 5)
 (sSeq (sAsg (d2 ixD (dVar 1) (dVar 5)) (dName 6))
 (sIf (dAndT (tDt truD (dVar 3)) (tDt blD (d2 gtD (dVar 2) (dC (.int 0)))))
 (sSeq (sApp 4 (d2 modD (dN intD (aCons (dVar 2) aNil)) (dVar 6)))
 (sAsg (d2 fdivD (dVar 2) (dVar 6)) (dName 2)))
 (sSeq (sAsg (d2 modD (dN intD (aCons (d2 addD (d2 addD (dN absD (aCons (dN intD (aCons (dVar 0) aNil)) aNil)) (d2 mulD (dC (.int 7919)) (dVar 5))) (dC (.int 13))) aNil)) (dC (.int 2147483647))) (dName 7))
 (sSeq (sAsg (d2 modD (dN intD (aCons (d2 mulD (dVar 7) (d2 addD (dVar 7) (dC (.int 48271)))) aNil)) (dC (.int 2147483629))) (dName 7))
 (sSeq (sAsg (d2 modD (dN intD (aCons (d2 addD (d2 mulD (dVar 7) (d2 addD (dVar 7) (dC (.int 69621)))) (d2 mulD (dC (.int 31)) (dVar 5))) aNil)) (dC (.int 2147483647))) (dName 7))
 (sApp 4 (d2 modD (dN intD (aCons (d2 fdivD (dVar 7) (dC (.int 9))) aNil)) (dVar 6)))))))))
 (sRetV 4)))))
def g_law_draws : PF := runG 6 (t_law_draws)
def t_law_sign : SF :=
 (sSeq (sAsg (dC (.str " !\"#$&'()*+,-./0123456789:;<=>?@ABCDEFGHIJKLMNOPQRSTUVWXYZ[\\]^_`")) (dName 1))
 (sSeq (sAsg (d2 addD (dVar 1) (dC (.str "abcdefghijklmnopqrstuvwxyz{|}~"))) (dName 1))
 (sRet (d2 ixD (dVar 1) (d2 modD (dN intD (aCons (dVar 0) aNil)) (dC (.int 94)))))))
def g_law_sign : PF := runG 1 (t_law_sign)
def t_law_text : SF :=
 (sSeq (sAsg (dCall 2 (g_law_draws) (aCons (dVar 0) (aCons (dN mkLst (aCons (dC (.int 94)) (aCons (dC (.int 94)) (aCons (dC (.int 94)) (aCons (dC (.int 94)) (aCons (dC (.int 94)) (aCons (dC (.int 5)) aNil))))))) aNil))) (dName 2))
 (sRet (Zj.dM1 Zj.joinD (dC (.str "")) (dLc (dRng1 (aCons (dVar 1) aNil)) (dName 3) dYes (dCall 1 (g_law_sign) (aCons (d2 addD (d2 ixD (dVar 2) (d2 modD (dN intD (aCons (d2 mulD (dVar 3) (d2 addD (d2 ixD (dVar 2) (dC (.int 5))) (dC (.int 1)))) aNil)) (dC (.int 5)))) (d2 fdivD (dVar 3) (dC (.int 5)))) aNil)) [3]))))
def g_law_text : PF := runG 2 (t_law_text)
def t_law_names : SF :=
 (sSeq (sAsg (dCall 2 (g_law_draws) (aCons (dVar 0) (aCons (d2 addD (d2 addD (d2 mulD (dN mkLst (aCons (dC (.int 36)) aNil)) (dC (.int 12))) (d2 mulD (dN mkLst (aCons (dC (.int 12)) aNil)) (dC (.int 4)))) (d2 mulD (dN mkLst (aCons (dC (.int 36)) aNil)) (dC (.int 4)))) aNil))) (dName 1))
 (sSeq (sAsg (dC (.str "abcdefghijklmnopqrstuvwxyz0123456789")) (dName 2))
 (sSeq (sAsg (Zj.dM1 Zj.joinD (dC (.str "")) (dLc (dRng1 (aCons (dC (.int 12)) aNil)) (dName 5) dYes (d2 ixD (dVar 2) (d2 ixD (dVar 1) (dVar 5))) [5])) (dName 3))
 (sSeq (sAsgO (dN mkLst aNil) 4)
 (sSeq (sFor (dRng1 (aCons (dC (.int 4)) aNil)) (dName 5)
 (sSeq (sAsg (d2 ixD (dVar 1) (d2 addD (dC (.int 12)) (dVar 5))) (dName 6))
 (sApp 4 (d2 addD (Zj.dSlS (dVar 3) oNone (oSome (dVar 6))) (d2 ixD (dVar 2) (d2 ixD (dVar 1) (d2 addD (dC (.int 16)) (dVar 5))))))))
 (sRetV 4))))))
def g_law_names : PF := runG 6 (t_law_names)
def t_law_is_integer : SF :=
 (sRet (dAndV (dN isiD (aCons (dVar 0) (aCons (dC (.ty "int")) aNil))) (d1 notD (dN isiD (aCons (dVar 0) (aCons (dC (.ty "bool")) aNil))))))
def g_law_is_integer : PF := runG 0 (t_law_is_integer)
def t_law_command : SF :=
 (sSeq (sAsg (dN mkTup (aCons (dC (.str "put")) (aCons (dC (.str "put")) (aCons (dC (.str "put")) (aCons (dC (.str "put")) (aCons (dC (.str "read")) (aCons (dC (.str "erase")) (aCons (dC (.str "send")) (aCons (dC (.str "add")) (aCons (dC (.str "drop")) (aCons (dC (.str "cap")) (aCons (dC (.str "lose")) (aCons (dC (.str "names")) (aCons (dC (.str "sends")) (aCons (dC (.str "mend")) aNil))))))))))))))) (dName 4))
 (sSeq (sAsg (d2 ixD (d2 Zm.catD (dVar 4) (dN mkTup (aCons (dC (.str "pack")) aNil))) (d2 ixD (dVar 0) (dC (.int 0)))) (dName 5))
 (sSeq (sAsg (d2 ixD (dVar 1) (d2 ixD (dVar 0) (dC (.int 1)))) (dName 6))
 (sSeq (sAsg (dLc (dRng1 (aCons (dC (.int 7)) aNil)) (dName 11) dYes (d2 ixD (dN mkTup (aCons (dC (.int 0)) (aCons (dC (.int 1)) (aCons (dC (.int 2)) (aCons (dC (.int 3)) (aCons (dC (.int 4)) (aCons (dC (.int 5)) (aCons (dC (.int 11)) (aCons (dC (.int 25)) aNil))))))))) (d2 ixD (dVar 0) (d2 addD (dC (.int 3)) (dVar 11)))) [11]) (dName 7))
 (sSeq (sAsg (d2 ixD (dN mkTup (aCons (dC (.int 0)) (aCons (dC (.int 1)) (aCons (dC (.int 9)) (aCons (dC (.int 10)) (aCons (dC (.int 100)) (aCons (dC (.int 999999)) (aCons (d2 modD (dN intD (aCons (dN absD (aCons (dN intD (aCons (dVar 3) aNil)) aNil)) aNil)) (dC (.int 1000000))) aNil)))))))) (d2 ixD (dVar 0) (dC (.int 10)))) (dName 8))
 (sSeq (sAsg (d2 ixD (dN mkTup (aCons (dC (.int 0)) (aCons (dC (.int 1)) (aCons (dC (.int 2)) (aCons (dC (.int 10)) (aCons (dC (.int 60)) (aCons (d2 modD (dN intD (aCons (dN absD (aCons (dN intD (aCons (dVar 3) aNil)) aNil)) aNil)) (d2 powD (dC (.int 10)) (dC (.int 39)))) aNil))))))) (d2 ixD (dVar 0) (dC (.int 11)))) (dName 9))
 (sSeq (sIf (tDt blD (d2 eqD (dVar 5) (dC (.str "put"))))
 (sSeq (sAsg (d2 mulD (d2 modD (dN intD (aCons (d2 ixD (dVar 0) (dC (.int 0))) aNil)) (dC (.int 2))) (d2 addD (d2 ixD (dVar 0) (dC (.int 2))) (dC (.int 1)))) (dName 10))
 (sRet (dN mkTup (aCons (dC (.str "put")) (aCons (dVar 6) (aCons (dN tupleD (aCons (dSl (dVar 7) oNone (oSome (dVar 10))) aNil)) (aCons (dVar 2) aNil)))))))
 sNext)
 (sSeq (sIf (dOrT (tDt blD (d2 eqD (dVar 5) (dC (.str "read")))) (tDt blD (d2 eqD (dVar 5) (dC (.str "erase")))))
 (sRet (dN mkTup (aCons (dVar 5) (aCons (dVar 6) aNil))))
 sNext)
 (sSeq (sIf (dOrT (tDt blD (d2 eqD (dVar 5) (dC (.str "send")))) (dOrT (tDt blD (d2 eqD (dVar 5) (dC (.str "add")))) (tDt blD (d2 eqD (dVar 5) (dC (.str "drop"))))))
 (sRet (dN mkTup (aCons (dVar 5) (aCons (dVar 8) (aCons (d2 ixD (dVar 7) (dC (.int 0))) aNil)))))
 sNext)
 (sSeq (sIf (tDt blD (d2 eqD (dVar 5) (dC (.str "cap"))))
 (sRet (dN mkTup (aCons (dC (.str "cap")) (aCons (d2 ixD (dVar 7) (dC (.int 0))) (aCons (dVar 9) aNil)))))
 sNext)
 (sSeq (sIf (tDt blD (d2 eqD (dVar 5) (dC (.str "lose"))))
 (sRet (dN mkTup (aCons (dC (.str "lose")) (aCons (d2 ixD (dVar 7) (dC (.int 0))) aNil))))
 sNext)
 (sRet (dN mkTup (aCons (dVar 5) aNil))))))))))))))
def g_law_command : PF := runG 8 (t_law_command)
def t_law_line : SF :=
 (sSeq (sIf (tDt blD (d2 neD (d2 ixD (dVar 0) (dC (.int 0))) (dC (.str "put"))))
 (sRet (Zj.dM1 Zj.joinD (dC (.str " ")) (dLc (dItems (dVar 0)) (dName 1) dYes (dN Zrd.strAD (aCons (dVar 1) aNil)) [1])))
 sNext)
 (sSeq (sIf (tDt blD (d2 eqD (dN lenD (aCons (d2 ixD (dVar 0) (dC (.int 2))) aNil)) (dC (.int 0))))
 (sRet (d2 addD (d2 addD (d2 addD (dC (.str "put ")) (d2 ixD (dVar 0) (dC (.int 1)))) (dC (.str ":"))) (d2 ixD (dVar 0) (dC (.int 3)))))
 sNext)
 (sRet (d2 addD (d2 addD (d2 addD (d2 addD (d2 addD (dC (.str "put ")) (d2 ixD (dVar 0) (dC (.int 1)))) (dC (.str "@"))) (Zj.dM1 Zj.joinD (dC (.str ",")) (dLc (dItems (d2 ixD (dVar 0) (dC (.int 2)))) (dName 2) dYes (dN Zrd.strAD (aCons (dVar 2) aNil)) [2]))) (dC (.str ":"))) (d2 ixD (dVar 0) (dC (.int 3)))))))
def g_law_line : PF := runG 2 (t_law_line)
def t_law_integer : SF :=
 (sSeq (sIf (dOrT (tDt blD (d2 eqD (dVar 0) (dC (.str "")))) (dAndT (tDt blD (d2 gtD (dN lenD (aCons (dVar 0) aNil)) (dC (.int 1)))) (tDt blD (d2 eqD (d2 ixD (dVar 0) (dC (.int 0))) (dC (.str "0"))))))
 (sRet (dC .non))
 sNext)
 (sSeq (sFor (Zra.dTxt (dVar 0)) (dName 1)
 (sIf (tDt blD (d2 (Zj.onT Zj.ninTf) (dVar 1) (dC (.str "0123456789"))))
 (sRet (dC .non))
 sNext))
 (sRet (dN Zj.intSD (aCons (dVar 0) aNil)))))
def g_law_integer : PF := runG 1 (t_law_integer)
def t_law_is_name : SF :=
 (sSeq (sIf (dOrT (tDt blD (d2 ltD (dN lenD (aCons (dVar 0) aNil)) (dC (.int 1)))) (tDt blD (d2 gtD (dN lenD (aCons (dVar 0) aNil)) (dC (.int 12)))))
 (sRet (dC (.bl false)))
 sNext)
 (sSeq (sFor (Zra.dTxt (dVar 0)) (dName 1)
 (sIf (tDt blD (d2 (Zj.onT Zj.ninTf) (dVar 1) (dC (.str "abcdefghijklmnopqrstuvwxyz0123456789"))))
 (sRet (dC (.bl false)))
 sNext))
 (sRet (dC (.bl true)))))
def g_law_is_name : PF := runG 1 (t_law_is_name)
def t_law_put_reading : SF :=
 (sSeq (sAsg (Zj.dM1 Zj.findD (dVar 0) (dC (.str ":"))) (dName 1))
 (sSeq (sIf (tDt blD (d2 ltD (dVar 1) (dC (.int 0))))
 (sRet (dC .non))
 sNext)
 (sSeq (sAsg (Zj.dM1 Zj.splitD (Zj.dSlS (dVar 0) oNone (oSome (dVar 1))) (dC (.str "@"))) (dName 2))
 (sSeq (sIf (dOrT (dNotT (tDt truD (dCall 1 (g_law_is_name) (aCons (d2 ixD (dVar 2) (dC (.int 0))) aNil)))) (tDt blD (d2 gtD (dN lenD (aCons (dVar 2) aNil)) (dC (.int 2)))))
 (sRet (dC .non))
 sNext)
 (sSeq (sIf (tDt blD (d2 eqD (dN lenD (aCons (dVar 2) aNil)) (dC (.int 1))))
 (sRet (dN mkTup (aCons (dC (.str "put")) (aCons (d2 ixD (dVar 2) (dC (.int 0))) (aCons (dN mkTup aNil) (aCons (Zj.dSlS (dVar 0) (oSome (d2 addD (dVar 1) (dC (.int 1)))) oNone) aNil))))))
 sNext)
 (sSeq (sAsg (dLc (dItems (Zj.dM1 Zj.splitD (d2 ixD (dVar 2) (dC (.int 1))) (dC (.str ",")))) (dName 4) dYes (dCall 1 (g_law_integer) (aCons (dVar 4) aNil)) [4]) (dName 3))
 (sSeq (sIf (tDt blD (d2 inD (dC .non) (dVar 3)))
 (sRet (dC .non))
 sNext)
 (sRet (dN mkTup (aCons (dC (.str "put")) (aCons (d2 ixD (dVar 2) (dC (.int 0))) (aCons (dN tupleD (aCons (dVar 3) aNil)) (aCons (Zj.dSlS (dVar 0) (oSome (d2 addD (dVar 1) (dC (.int 1)))) oNone) aNil)))))))))))))
def g_law_put_reading : PF := runG 4 (t_law_put_reading)
def t_law_reading : SF :=
 (sSeq (sIf (tDt blD (d2 (Zj.onT Zj.inTf) (dC (.str "\n")) (dVar 0)))
 (sRet (dC .non))
 sNext)
 (sSeq (sIf (tDt blD (d2 eqD (Zj.dSlS (dVar 0) oNone (oSome (dC (.int 4)))) (dC (.str "put "))))
 (sRet (dCall 1 (g_law_put_reading) (aCons (Zj.dSlS (dVar 0) (oSome (dC (.int 4))) oNone) aNil)))
 sNext)
 (sSeq (sAsg (Zj.dM1 Zj.splitD (dVar 0) (dC (.str " "))) (dName 1))
 (sSeq (sAsg (dN lenD (aCons (dVar 1) aNil)) (dName 2))
 (sSeq (sIf (dAndT (tDt blD (d2 inD (d2 ixD (dVar 1) (dC (.int 0))) (dN mkTup (aCons (dC (.str "names")) (aCons (dC (.str "sends")) (aCons (dC (.str "mend")) (aCons (dC (.str "pack")) aNil))))))) (tDt blD (d2 eqD (dVar 2) (dC (.int 1)))))
 (sRet (dN mkTup (aCons (d2 ixD (dVar 1) (dC (.int 0))) aNil)))
 sNext)
 (sSeq (sIf (dAndT (tDt blD (d2 inD (d2 ixD (dVar 1) (dC (.int 0))) (dN mkTup (aCons (dC (.str "read")) (aCons (dC (.str "erase")) aNil))))) (dAndT (tDt blD (d2 eqD (dVar 2) (dC (.int 2)))) (tDt truD (dCall 1 (g_law_is_name) (aCons (d2 ixD (dVar 1) (dC (.int 1))) aNil)))))
 (sRet (dN mkTup (aCons (d2 ixD (dVar 1) (dC (.int 0))) (aCons (d2 ixD (dVar 1) (dC (.int 1))) aNil))))
 sNext)
 (sSeq (sAsg (dLc (dItems (dSl (dVar 1) (oSome (dC (.int 1))) oNone)) (dName 4) dYes (dCall 1 (g_law_integer) (aCons (dVar 4) aNil)) [4]) (dName 3))
 (sSeq (sIf (tDt blD (d2 inD (dC .non) (dVar 3)))
 (sRet (dC .non))
 sNext)
 (sSeq (sIf (dOrT (dAndT (tDt blD (d2 inD (d2 ixD (dVar 1) (dC (.int 0))) (dN mkTup (aCons (dC (.str "send")) (aCons (dC (.str "add")) (aCons (dC (.str "drop")) (aCons (dC (.str "cap")) aNil))))))) (tDt blD (d2 eqD (dVar 2) (dC (.int 3))))) (dAndT (tDt blD (d2 eqD (d2 ixD (dVar 1) (dC (.int 0))) (dC (.str "lose")))) (tDt blD (d2 eqD (dVar 2) (dC (.int 2))))))
 (sRet (dN tupleD (aCons (d2 addD (dN mkLst (aCons (d2 ixD (dVar 1) (dC (.int 0))) aNil)) (dVar 3)) aNil)))
 sNext)
 (sRet (dC .non)))))))))))
def g_law_reading : PF := runG 4 (t_law_reading)
def t_law_odd_part : SF :=
 (sSeq (sAsg (dN mkLst (aCons (dC (.str "")) (aCons (dC (.str "00")) (aCons (dC (.str "01")) (aCons (dC (.str "-1")) (aCons (dC (.str "+1")) (aCons (dC (.str "A")) (aCons (dC (.str "a b")) (aCons (dC (.str "a-")) (aCons (dC (.str "0,")) (aCons (dC (.str ",0")) (aCons (dC (.str "0,,1")) (aCons (dC (.str "0 ")) (aCons (dC (.str " 0")) (aCons (dC (.str "0@1")) (aCons (dC (.str "abcdefghijklm")) (aCons (dC (.str "a.")) aNil))))))))))))))))) (dName 1))
 (sSeq (sAsg (d2 addD (dVar 1) (dN mkLst (aCons (dC (.str "@")) (aCons (dC (.str ":")) (aCons (dC (.str "1_0")) (aCons (dC (.str "0x1")) aNil)))))) (dName 1))
 (sRet (d2 ixD (dVar 1) (d2 modD (dN intD (aCons (dVar 0) aNil)) (dN lenD (aCons (dVar 1) aNil)))))))
def g_law_odd_part : PF := runG 1 (t_law_odd_part)
def t_law_odd_line : SF :=
 (sSeq (sAsg (dN mkLst (aCons (dC (.str "")) (aCons (dC (.str " ")) (aCons (dC (.str "put")) (aCons (dC (.str "put ")) (aCons (dC (.str "put :")) (aCons (dC (.str "put a")) (aCons (dC (.str "put a ")) (aCons (dC (.str "put @0:x")) (aCons (dC (.str "put a@:x")) (aCons (dC (.str "put a@0,:x")) (aCons (dC (.str "put a@,0:x")) aNil)))))))))))) (dName 1))
 (sSeq (sAsg (d2 addD (dVar 1) (dN mkLst (aCons (dC (.str "put a@0 1:x")) (aCons (dC (.str "put a@0@1:x")) (aCons (dC (.str "put a@-1:x")) (aCons (dC (.str "put a@01:x")) (aCons (dC (.str "put a@0")) (aCons (dC (.str "put a :x")) (aCons (dC (.str "put  a:x")) (aCons (dC (.str "put:a")) aNil)))))))))) (dName 1))
 (sSeq (sAsg (d2 addD (dVar 1) (dN mkLst (aCons (dC (.str "Put a:x")) (aCons (dC (.str "puta:x")) (aCons (dC (.str "put a:x\n")) (aCons (dC (.str "put a\n:x")) (aCons (dC (.str "put a@0:\n")) (aCons (dC (.str "read")) (aCons (dC (.str "read ")) (aCons (dC (.str "read a b")) (aCons (dC (.str "read a ")) aNil))))))))))) (dName 1))
 (sSeq (sAsg (d2 addD (dVar 1) (dN mkLst (aCons (dC (.str " read a")) (aCons (dC (.str "Read a")) (aCons (dC (.str "read  a")) (aCons (dC (.str "reada")) (aCons (dC (.str "erase")) (aCons (dC (.str "erase a a")) (aCons (dC (.str "send 1")) (aCons (dC (.str "send 1 0 0")) (aCons (dC (.str "send 1,0")) aNil))))))))))) (dName 1))
 (sSeq (sAsg (d2 addD (dVar 1) (dN mkLst (aCons (dC (.str "send one 0")) (aCons (dC (.str "add")) (aCons (dC (.str "drop 1 ")) (aCons (dC (.str "cap 0")) (aCons (dC (.str "lose")) (aCons (dC (.str "lose 0 1")) (aCons (dC (.str "names ")) (aCons (dC (.str "names a")) (aCons (dC (.str "sends 0")) aNil))))))))))) (dName 1))
 (sSeq (sAsg (d2 addD (dVar 1) (dN mkLst (aCons (dC (.str "mend mend")) (aCons (dC (.str "pack\n")) (aCons (dC (.str "packs")) (aCons (dC (.str "NAMES")) (aCons (dC (.str "name")) (aCons (dC (.str "\n")) (aCons (dC (.str "sends\n")) (aCons (dC (.str "cap 0 1 2")) (aCons (dC (.str "add 1 01")) aNil))))))))))) (dName 1))
 (sRet (d2 ixD (dVar 1) (d2 modD (dN intD (aCons (dVar 0) aNil)) (dN lenD (aCons (dVar 1) aNil)))))))))))
def g_law_odd_line : PF := runG 1 (t_law_odd_line)
def t_law_odd_seats : SF :=
 (sSeq (sAsg (dN mkLst (aCons (dC (.str "")) (aCons (dC (.str "00")) (aCons (dC (.str "01")) (aCons (dC (.str "-1")) (aCons (dC (.str "0,")) (aCons (dC (.str ",0")) (aCons (dC (.str "0,,1")) (aCons (dC (.str "0, 1")) (aCons (dC (.str " 0")) (aCons (dC (.str "0 ")) (aCons (dC (.str "0@1")) (aCons (dC (.str "+1")) (aCons (dC (.str "a")) (aCons (dC (.str "1_0")) aNil))))))))))))))) (dName 2))
 (sRet (d2 ixD (d2 addD (dVar 2) (dN mkLst (aCons (dVar 1) aNil))) (d2 modD (dN intD (aCons (dVar 0) aNil)) (dC (.int 15))))))
def g_law_odd_seats : PF := runG 1 (t_law_odd_seats)
def t_law_replaced : SF :=
 (sSeq (sIf (tDt blD (d2 neD (d2 ixD (dVar 0) (dC (.int 0))) (dC (.str "put"))))
 (sSeq (sAsgO (Zj.dM1 Zj.splitD (dVar 1) (dC (.str " "))) 4)
 (sSeq (sSetI 4 (peekF (d2 modD (dN intD (aCons (dVar 3) aNil)) (dN lenD (aCons (dVar 4) aNil)))) (dVar 2))
 (sFrz [4] (sRet (Zj.dM1 Zj.joinD (dC (.str " ")) (dVar 4))))))
 sNext)
 (sSeq (sAsg (d2 addD (dC (.str "put ")) (d2 ixD (dVar 0) (dC (.int 1)))) (dName 5))
 (sSeq (sIf (tDt blD (d2 eqD (d2 modD (dN intD (aCons (dVar 3) aNil)) (dC (.int 3))) (dC (.int 0))))
 (sRet (d2 addD (d2 addD (dC (.str "put ")) (dVar 2)) (Zj.dSlS (dVar 1) (oSome (dN lenD (aCons (dVar 5) aNil))) oNone)))
 sNext)
 (sSeq (sIf (tDt blD (d2 eqD (d2 modD (dN intD (aCons (dVar 3) aNil)) (dC (.int 3))) (dC (.int 1))))
 (sRet (d2 addD (d2 addD (dVar 5) (dVar 2)) (Zj.dSlS (dVar 1) (oSome (dN lenD (aCons (dVar 5) aNil))) oNone)))
 sNext)
 (sRet (d2 addD (d2 addD (d2 addD (d2 addD (dVar 5) (dC (.str "@"))) (dCall 2 (g_law_odd_seats) (aCons (d2 fdivD (dN intD (aCons (dVar 3) aNil)) (dC (.int 3))) (aCons (dVar 2) aNil)))) (dC (.str ":"))) (d2 ixD (dVar 0) (dC (.int 3)))))))))
def g_law_replaced : PF := runG 2 (t_law_replaced)
def t_law_other_line : SF :=
 (sSeq (sAsg (dCall 2 (g_law_draws) (aCons (dVar 2) (aCons (dN mkLst (aCons (dC (.int 14)) (aCons (dC (.int 60)) (aCons (dC (.int 90)) (aCons (dC (.int 94)) (aCons (dC (.int 16)) (aCons (dC (.int 840)) aNil))))))) aNil))) (dName 3))
 (sSeq (sAsg (d2 modD (dN intD (aCons (d2 ixD (dVar 3) (dC (.int 5))) aNil)) (dN lenD (aCons (dVar 1) aNil))) (dName 4))
 (sSeq (sIf (tDt blD (d2 gtD (d2 modD (dN intD (aCons (d2 ixD (dVar 3) (dC (.int 2))) aNil)) (dC (.int 3))) (dC (.int 0))))
 (sAsg (d2 modD (dN intD (aCons (d2 ixD (dVar 3) (dC (.int 5))) aNil)) (dN minD (aCons (dC (.int 16)) (aCons (dN lenD (aCons (dVar 1) aNil)) aNil)))) (dName 4))
 sNext)
 (sSeq (sAsg (d2 ixD (dC (.str " :@,0-1aA\n.9z_+5")) (d2 ixD (dVar 3) (dC (.int 4)))) (dName 5))
 (sSeq (sIf (tDt blD (d2 eqD (d2 modD (dN intD (aCons (d2 ixD (dVar 3) (dC (.int 2))) aNil)) (dC (.int 5))) (dC (.int 0))))
 (sAsg (dCall 1 (g_law_sign) (aCons (d2 ixD (dVar 3) (dC (.int 3))) aNil)) (dName 5))
 sNext)
 (sSeq (sIf (tDt blD (d2 ltD (d2 ixD (dVar 3) (dC (.int 0))) (dC (.int 5))))
 (sRet (dCall 4 (g_law_replaced) (aCons (dVar 0) (aCons (dVar 1) (aCons (dCall 1 (g_law_odd_part) (aCons (d2 ixD (dVar 3) (dC (.int 1))) aNil)) (aCons (d2 ixD (dVar 3) (dC (.int 2))) aNil))))))
 sNext)
 (sSeq (sIf (tDt blD (d2 eqD (d2 ixD (dVar 3) (dC (.int 0))) (dC (.int 5))))
 (sRet (dCall 1 (g_law_odd_line) (aCons (d2 ixD (dVar 3) (dC (.int 1))) aNil)))
 sNext)
 (sSeq (sIf (tDt blD (d2 eqD (d2 ixD (dVar 3) (dC (.int 0))) (dC (.int 6))))
 (sRet (d2 addD (dVar 5) (dVar 1)))
 sNext)
 (sSeq (sIf (tDt blD (d2 eqD (d2 ixD (dVar 3) (dC (.int 0))) (dC (.int 7))))
 (sRet (d2 addD (dVar 1) (dVar 5)))
 sNext)
 (sSeq (sIf (tDt blD (d2 eqD (d2 ixD (dVar 3) (dC (.int 0))) (dC (.int 8))))
 (sRet (Zj.dSlS (dVar 1) oNone (oSome (dVar 4))))
 sNext)
 (sSeq (sIf (tDt blD (d2 eqD (d2 ixD (dVar 3) (dC (.int 0))) (dC (.int 9))))
 (sRet (d2 addD (d2 addD (Zj.dSlS (dVar 1) oNone (oSome (dVar 4))) (d2 ixD (dVar 1) (dVar 4))) (Zj.dSlS (dVar 1) (oSome (dVar 4)) oNone)))
 sNext)
 (sSeq (sIf (tDt blD (d2 eqD (d2 ixD (dVar 3) (dC (.int 0))) (dC (.int 10))))
 (sRet (d2 addD (Zj.dSlS (dVar 1) oNone (oSome (dVar 4))) (Zj.dSlS (dVar 1) (oSome (d2 addD (dVar 4) (dC (.int 1)))) oNone)))
 sNext)
 (sSeq (sIf (tDt blD (d2 eqD (d2 ixD (dVar 3) (dC (.int 0))) (dC (.int 11))))
 (sRet (d2 addD (d2 addD (Zj.dSlS (dVar 1) oNone (oSome (dVar 4))) (dVar 5)) (Zj.dSlS (dVar 1) (oSome (d2 addD (dVar 4) (dC (.int 1)))) oNone)))
 sNext)
 (sSeq (sIf (tDt blD (d2 eqD (d2 ixD (dVar 3) (dC (.int 0))) (dC (.int 12))))
 (sSeq (sAsg (d2 ixD (dN mkTup (aCons (dC (.str "put")) (aCons (dC (.str "read")) (aCons (dC (.str "erase")) (aCons (dC (.str "send")) (aCons (dC (.str "lose")) (aCons (dC (.str "names")) (aCons (dC (.str "puts")) (aCons (dC (.str "Cap")) aNil))))))))) (d2 modD (dN intD (aCons (d2 ixD (dVar 3) (dC (.int 1))) aNil)) (dC (.int 8)))) (dName 6))
 (sRet (Zj.dM1 Zj.joinD (dC (.str " ")) (d2 addD (dN mkLst (aCons (dVar 6) aNil)) (dSl (Zj.dM1 Zj.splitD (dVar 1) (dC (.str " "))) (oSome (dC (.int 1))) oNone)))))
 sNext)
 (sRet (d2 addD (d2 addD (Zj.dSlS (dVar 1) oNone (oSome (dVar 4))) (dVar 5)) (Zj.dSlS (dVar 1) (oSome (dVar 4)) oNone)))))))))))))))))
def g_law_other_line : PF := runG 4 (t_law_other_line)
def t_law_alikeU0 : SF :=
 (sSeq (sIf (tDt truD (dN isiD (aCons (dVar 1) (aCons (dC (.ty "tuple")) aNil))))
 (sSeq (sIf (dOrT (dNotT (tDt truD (dN isiD (aCons (dVar 0) (aCons (dC (.ty "tuple")) aNil))))) (tDt blD (d2 neD (dN lenD (aCons (dVar 0) aNil)) (dN lenD (aCons (dVar 1) aNil)))))
 (sRet (dC (.bl false)))
 sNext)
 (sSeq (sFor (dRng1 (aCons (dN lenD (aCons (dVar 1) aNil)) aNil)) (dName 2)
 (sIf (dNotT (tDt truD Zq9.dNo))
 (sRet (dC (.bl false)))
 sNext))
 (sRet (dC (.bl true)))))
 sNext)
 (sSeq (sIf (tDt truD (dN isiD (aCons (dVar 1) (aCons (dC (.ty "str")) aNil))))
 (sRet (dAndV (dN isiD (aCons (dVar 0) (aCons (dC (.ty "str")) aNil))) (d2 eqD (dVar 0) (dVar 1))))
 sNext)
 (sRet (dAndV (dCall 1 (g_law_is_integer) (aCons (dVar 0) aNil)) (d2 eqD (dVar 0) (dVar 1))))))
def g_law_alikeU0 : PF := runG 1 (t_law_alikeU0)
def t_law_alikeU1 : SF :=
 (sSeq (sIf (tDt truD (dN isiD (aCons (dVar 1) (aCons (dC (.ty "tuple")) aNil))))
 (sSeq (sIf (dOrT (dNotT (tDt truD (dN isiD (aCons (dVar 0) (aCons (dC (.ty "tuple")) aNil))))) (tDt blD (d2 neD (dN lenD (aCons (dVar 0) aNil)) (dN lenD (aCons (dVar 1) aNil)))))
 (sRet (dC (.bl false)))
 sNext)
 (sSeq (sFor (dRng1 (aCons (dN lenD (aCons (dVar 1) aNil)) aNil)) (dName 2)
 (sIf (dNotT (tDt truD (dCall 2 (g_law_alikeU0) (aCons (d2 ixD (dVar 0) (dVar 2)) (aCons (d2 ixD (dVar 1) (dVar 2)) aNil)))))
 (sRet (dC (.bl false)))
 sNext))
 (sRet (dC (.bl true)))))
 sNext)
 (sSeq (sIf (tDt truD (dN isiD (aCons (dVar 1) (aCons (dC (.ty "str")) aNil))))
 (sRet (dAndV (dN isiD (aCons (dVar 0) (aCons (dC (.ty "str")) aNil))) (d2 eqD (dVar 0) (dVar 1))))
 sNext)
 (sRet (dAndV (dCall 1 (g_law_is_integer) (aCons (dVar 0) aNil)) (d2 eqD (dVar 0) (dVar 1))))))
def g_law_alikeU1 : PF := runG 1 (t_law_alikeU1)
def t_law_alike : SF :=
 (sSeq (sIf (tDt truD (dN isiD (aCons (dVar 1) (aCons (dC (.ty "tuple")) aNil))))
 (sSeq (sIf (dOrT (dNotT (tDt truD (dN isiD (aCons (dVar 0) (aCons (dC (.ty "tuple")) aNil))))) (tDt blD (d2 neD (dN lenD (aCons (dVar 0) aNil)) (dN lenD (aCons (dVar 1) aNil)))))
 (sRet (dC (.bl false)))
 sNext)
 (sSeq (sFor (dRng1 (aCons (dN lenD (aCons (dVar 1) aNil)) aNil)) (dName 2)
 (sIf (dNotT (tDt truD (dCall 2 (g_law_alikeU1) (aCons (d2 ixD (dVar 0) (dVar 2)) (aCons (d2 ixD (dVar 1) (dVar 2)) aNil)))))
 (sRet (dC (.bl false)))
 sNext))
 (sRet (dC (.bl true)))))
 sNext)
 (sSeq (sIf (tDt truD (dN isiD (aCons (dVar 1) (aCons (dC (.ty "str")) aNil))))
 (sRet (dAndV (dN isiD (aCons (dVar 0) (aCons (dC (.ty "str")) aNil))) (d2 eqD (dVar 0) (dVar 1))))
 sNext)
 (sRet (dAndV (dCall 1 (g_law_is_integer) (aCons (dVar 0) aNil)) (d2 eqD (dVar 0) (dVar 1))))))
def g_law_alike : PF := runG 1 (t_law_alike)
def t_law_parsed (c : Cs) : SF :=
 (Zr.sTry c.InvalidLine 1 (Zr.xTail (dC (.str "command")) (Zr.xCall 1 (gr_parse_line c) (aCons (dVar 0) aNil))) (sRet (dN mkTup (aCons (dC (.str "command")) (aCons (dCall 1 (g_parse_line c) (aCons (dVar 0) aNil)) aNil)))) (fun a dd => (sSeq (sAsg (dAndV (Zr.dIs a dd c.InvalidLine true 1) (Zr.dIs a dd c.InvalidLine true 1)) (dName 2))
 (sSeq (sFor (Zre.dItemsL (dN mkLst (aCons (Zr.dIs a dd c.InvalidLine false 1) (aCons (Zr.dIs a dd c.InvalidLine false 1) (aCons (Zr.dIs a dd c.InvalidLine false 1) aNil))))) (dName 3)
 (sAsg (dAndV (dVar 2) (d1 notD (dVar 3))) (dName 2)))
 (sRet (dN mkTup (aCons (dC (.str "refused")) (aCons (Zr.dXf a dd c.InvalidLine "text" 1) (aCons (dAndV (dVar 2) (d1 notD (Zr.dIs a dd c.InvalidLine false 1))) aNil)))))))))
def g_law_parsed (c : Cs) : PF := runG 3 (t_law_parsed c)
def t_law_there_and_back (c : Cs) : SF :=
 (sSeq (sAsg (dCall 1 (g_command_line) (aCons (dVar 0) aNil)) (dName 2))
 (sSeq (sIf (dOrT (dNotT (tDt truD (dN isiD (aCons (dVar 2) (aCons (dC (.ty "str")) aNil))))) (tDt blD (d2 neD (dVar 2) (dVar 1))))
 (sRet (dC (.bl false)))
 sNext)
 (sSeq (sAsg (dCall 1 (g_law_parsed c) (aCons (dVar 1) aNil)) (dName 3))
 (sRet (dAndV (d2 eqD (d2 ixD (dVar 3) (dC (.int 0))) (dC (.str "command"))) (dCall 2 (g_law_alike) (aCons (d2 ixD (dVar 3) (dC (.int 1))) (aCons (dVar 0) aNil))))))))
def g_law_there_and_back (c : Cs) : PF := runG 2 (t_law_there_and_back c)
def t_law_judged (c : Cs) : SF :=
 (sSeq (sAsg (dCall 1 (g_law_reading) (aCons (dVar 0) aNil)) (dName 1))
 (sSeq (sIf (tDt blD (d2 isntD (dVar 1) (dC .non)))
 (sRet (dCall 2 (g_law_there_and_back c) (aCons (dVar 1) (aCons (dVar 0) aNil))))
 sNext)
 (sSeq (sAsg (dCall 1 (g_law_parsed c) (aCons (dVar 0) aNil)) (dName 2))
 (sSeq (sIf (dOrT (tDt blD (d2 neD (d2 ixD (dVar 2) (dC (.int 0))) (dC (.str "refused")))) (dNotT (tDt truD (d2 ixD (dVar 2) (dC (.int 2))))))
 (sRet (dC (.bl false)))
 sNext)
 (sRet (dAndV (dN isiD (aCons (d2 ixD (dVar 2) (dC (.int 1))) (aCons (dC (.ty "str")) aNil))) (d2 eqD (d2 ixD (dVar 2) (dC (.int 1))) (dVar 0))))))))
def g_law_judged (c : Cs) : PF := runG 2 (t_law_judged c)
def t_law (c : Cs) : SF :=
 (sSeq (sFor (dRng1 (aCons (dN minD (aCons (dC (.int 5)) (aCons (d2 addD (dC (.int 1)) (d2 fdivD (dN lenD (aCons (dVar 0) aNil)) (dC (.int 4)))) aNil))) aNil)) (dName 1)
 (sSeq (sAsg (dCall 2 (g_law_cell) (aCons (dVar 0) (aCons (d2 mulD (dC (.int 4)) (dVar 1)) aNil))) (dName 2))
 (sSeq (sAsg (dCall 2 (g_law_draws) (aCons (dVar 2) (aCons (dN mkLst (aCons (dC (.int 15)) (aCons (dC (.int 4)) (aCons (dC (.int 7)) (aCons (dC (.int 8)) (aCons (dC (.int 8)) (aCons (dC (.int 8)) (aCons (dC (.int 8)) (aCons (dC (.int 8)) (aCons (dC (.int 8)) (aCons (dC (.int 8)) (aCons (dC (.int 7)) (aCons (dC (.int 6)) (aCons (dC (.int 9)) (aCons (dC (.int 5)) (aCons (dC (.int 5)) aNil)))))))))))))))) aNil))) (dName 3))
 (sSeq (sAsg (dCall 1 (g_law_names) (aCons (dCall 2 (g_law_cell) (aCons (dVar 0) (aCons (d2 addD (d2 mulD (dC (.int 4)) (dVar 1)) (dC (.int 1))) aNil))) aNil)) (dName 4))
 (sSeq (sAsg (dCall 2 (g_law_text) (aCons (dCall 2 (g_law_cell) (aCons (dVar 0) (aCons (d2 addD (d2 mulD (dC (.int 4)) (dVar 1)) (dC (.int 2))) aNil))) (aCons (d2 ixD (dN mkTup (aCons (dC (.int 0)) (aCons (dC (.int 1)) (aCons (dC (.int 7)) (aCons (dC (.int 8)) (aCons (dC (.int 9)) (aCons (dC (.int 16)) (aCons (dC (.int 17)) (aCons (dC (.int 25)) (aCons (dC (.int 315)) aNil)))))))))) (d2 ixD (dVar 3) (dC (.int 12)))) aNil))) (dName 5))
 (sSeq (sAsg (d2 addD (d2 addD (d2 ixD (dN mkTup (aCons (dC (.str "")) (aCons (dC (.str " ")) (aCons (dC (.str ":")) (aCons (dC (.str "@1:")) (aCons (dC (.str "::")) aNil)))))) (d2 ixD (dVar 3) (dC (.int 13)))) (dVar 5)) (d2 ixD (dN mkTup (aCons (dC (.str "")) (aCons (dC (.str " ")) (aCons (dC (.str ":")) (aCons (dC (.str "  ")) (aCons (dC (.str "@")) aNil)))))) (d2 ixD (dVar 3) (dC (.int 14))))) (dName 5))
 (sSeq (sAsg (dCall 4 (g_law_command) (aCons (dVar 3) (aCons (dVar 4) (aCons (dVar 5) (aCons (dVar 2) aNil))))) (dName 6))
 (sSeq (sAsg (dCall 1 (g_law_line) (aCons (dVar 6) aNil)) (dName 7))
 (sSeq (sIf (dNotT (tDt truD (dCall 2 (g_law_there_and_back c) (aCons (dVar 6) (aCons (dVar 7) aNil)))))
 (sRet (dC (.bl false)))
 sNext)
 (sSeq (sIf (dNotT (tDt truD (dCall 1 (g_law_judged c) (aCons (dCall 3 (g_law_other_line) (aCons (dVar 6) (aCons (dVar 7) (aCons (dCall 2 (g_law_cell) (aCons (dVar 0) (aCons (d2 addD (d2 mulD (dC (.int 4)) (dVar 1)) (dC (.int 3))) aNil))) aNil)))) aNil))))
 (sRet (dC (.bl false)))
 sNext)
 (sIf (dNotT (tDt truD (dCall 2 (g_law_there_and_back c) (aCons (dVar 6) (aCons (dVar 7) aNil)))))
 (sRet (dC (.bl false)))
 sNext)))))))))))
 (sRet (dC (.bl true))))
def g_law (c : Cs) : PF := runG 7 (t_law c)
structure Txt (K : PySem.W.Frag) (mg : Str → Option Value) (w : World) where
  c : Cs
  ew : c.w = w
  m_ValueError : mg "ValueError" = none
  m_abs : mg "abs" = none
  m_all : mg "all" = none
  m_bool : mg "bool" = none
  m_int : mg "int" = none
  m_isinstance : mg "isinstance" = none
  m_len : mg "len" = none
  m_min : mg "min" = none
  m_range : mg "range" = none
  m_str : mg "str" = none
  m_tuple : mg "tuple" = none
  kt_NUMBERED : Addr
  kq_NUMBERED : mg "NUMBERED" = some (.ref kt_NUMBERED)
  kd_NUMBERED : Zrd.DK K w kt_NUMBERED [("send", 2), ("add", 2), ("drop", 2), ("cap", 2), ("lose", 1)]
  kt_ALONE : Addr
  kq_ALONE : mg "ALONE" = some (.ref kt_ALONE)
  ks_ALONE : ∀ G : Hp, SqT K G kt_ALONE ((["names", "sends", "mend", "pack"] : List Str).map V.str)
  kt_NAMED : Addr
  kq_NAMED : mg "NAMED" = some (.ref kt_NAMED)
  ks_NAMED : ∀ G : Hp, SqT K G kt_NAMED ((["read", "erase"] : List Str).map V.str)
  c_InvalidLine : mg "InvalidLine" = some (.ref c.InvalidLine)
  c_PoolError : mg "PoolError" = some (.ref c.PoolError)
  c_InvalidText : mg "InvalidText" = some (.ref c.InvalidText)
  c_InvalidSeats : mg "InvalidSeats" = some (.ref c.InvalidSeats)
  c_InvalidName : mg "InvalidName" = some (.ref c.InvalidName)
  c_Missing : mg "Missing" = some (.ref c.Missing)
  xc_InvalidLine : L2.ExcC K c.InvalidLine
  oe_InvalidLine : L2.OexC K c.InvalidLine
  xf_InvalidLine : L2.XfC K c.InvalidLine
  hn_InvalidLine_text : PySem.W.findIn K (.ref c.InvalidLine) "text" = some none
  fI_InvalidLine : Addr
  fdI_InvalidLine : FuncData
  FI_InvalidLine : Fun K "__init__" "InvalidLine.__init__" sI_InvalidLine fI_InvalidLine fdI_InvalidLine
  bI_InvalidLine : Binds K fdI_InvalidLine ["self", "text"] []
  iC_InvalidLine : PySem.W.findIn K (.ref c.InvalidLine) "__init__" = some (some (.ref fI_InvalidLine))
  tI_InvalidLine : PySem.W.typeIn K (.ref fI_InvalidLine) = some (.type "function")
  xm_InvalidLine_InvalidLine : PySem.W.exmOne K (.ref c.InvalidLine) (.ref c.InvalidLine) = some true
  xs_InvalidLine_PoolError : PySem.W.kitOne K (.ref c.InvalidLine) (.ref c.PoolError) = some true
  xs_InvalidLine_ValueError : PySem.W.kitOne K (.ref c.InvalidLine) (.type "ValueError") = some true
  xs_InvalidLine_InvalidText : PySem.W.kitOne K (.ref c.InvalidLine) (.ref c.InvalidText) = some false
  xs_InvalidLine_InvalidSeats : PySem.W.kitOne K (.ref c.InvalidLine) (.ref c.InvalidSeats) = some false
  xs_InvalidLine_InvalidName : PySem.W.kitOne K (.ref c.InvalidLine) (.ref c.InvalidName) = some false
  xs_InvalidLine_Missing : PySem.W.kitOne K (.ref c.InvalidLine) (.ref c.Missing) = some false
  f_is_name : Addr
  fd_is_name : FuncData
  F_is_name : Fun K "is_name" "is_name" s_is_name f_is_name fd_is_name
  b_is_name : Binds K fd_is_name ["word"] []
  g_is_name : mg "is_name" = some (.ref f_is_name)
  f_is_number : Addr
  fd_is_number : FuncData
  F_is_number : Fun K "is_number" "is_number" s_is_number f_is_number fd_is_number
  b_is_number : Binds K fd_is_number ["word"] []
  g_is_number : mg "is_number" = some (.ref f_is_number)
  f_joined : Addr
  fd_joined : FuncData
  F_joined : Fun K "joined" "joined" s_joined f_joined fd_joined
  b_joined : Binds K fd_joined ["numbers"] []
  g_joined : mg "joined" = some (.ref f_joined)
  f_read_joined : Addr
  fd_read_joined : FuncData
  F_read_joined : Fun K "read_joined" "read_joined" s_read_joined f_read_joined fd_read_joined
  b_read_joined : Binds K fd_read_joined ["word"] []
  g_read_joined : mg "read_joined" = some (.ref f_read_joined)
  f_command_line : Addr
  fd_command_line : FuncData
  F_command_line : Fun K "command_line" "command_line" s_command_line f_command_line fd_command_line
  b_command_line : Binds K fd_command_line ["command"] []
  g_command_line : mg "command_line" = some (.ref f_command_line)
  f_parse_line : Addr
  fd_parse_line : FuncData
  F_parse_line : Fun K "parse_line" "parse_line" s_parse_line f_parse_line fd_parse_line
  b_parse_line : Binds K fd_parse_line ["line"] []
  g_parse_line : mg "parse_line" = some (.ref f_parse_line)
  f_read_line : Addr
  fd_read_line : FuncData
  F_read_line : Fun K "_read_line" "_read_line" s_read_line f_read_line fd_read_line
  b_read_line : Binds K fd_read_line ["line"] []
  g_read_line : mg "_read_line" = some (.ref f_read_line)
  f_read_put : Addr
  fd_read_put : FuncData
  F_read_put : Fun K "_read_put" "_read_put" s_read_put f_read_put fd_read_put
  b_read_put : Binds K fd_read_put ["rest"] []
  g_read_put : mg "_read_put" = some (.ref f_read_put)
  f_put_line : Addr
  fd_put_line : FuncData
  F_put_line : Fun K "_put_line" "_put_line" s_put_line f_put_line fd_put_line
  b_put_line : Binds K fd_put_line ["command"] []
  g_put_line : mg "_put_line" = some (.ref f_put_line)
  f_law_cell : Addr
  fd_law_cell : FuncData
  F_law_cell : Fun K "_law_cell" "_law_cell" s_law_cell f_law_cell fd_law_cell
  b_law_cell : Binds K fd_law_cell ["script", "k"] []
  g_law_cell : mg "_law_cell" = some (.ref f_law_cell)
  f_law_draws : Addr
  fd_law_draws : FuncData
  F_law_draws : Fun K "_law_draws" "_law_draws" s_law_draws f_law_draws fd_law_draws
  b_law_draws : Binds K fd_law_draws ["cell", "sizes"] []
  g_law_draws : mg "_law_draws" = some (.ref f_law_draws)
  f_law_sign : Addr
  fd_law_sign : FuncData
  F_law_sign : Fun K "_law_sign" "_law_sign" s_law_sign f_law_sign fd_law_sign
  b_law_sign : Binds K fd_law_sign ["number"] []
  g_law_sign : mg "_law_sign" = some (.ref f_law_sign)
  f_law_text : Addr
  fd_law_text : FuncData
  F_law_text : Fun K "_law_text" "_law_text" s_law_text f_law_text fd_law_text
  b_law_text : Binds K fd_law_text ["cell", "size"] []
  g_law_text : mg "_law_text" = some (.ref f_law_text)
  f_law_names : Addr
  fd_law_names : FuncData
  F_law_names : Fun K "_law_names" "_law_names" s_law_names f_law_names fd_law_names
  b_law_names : Binds K fd_law_names ["cell"] []
  g_law_names : mg "_law_names" = some (.ref f_law_names)
  f_law_is_integer : Addr
  fd_law_is_integer : FuncData
  F_law_is_integer : Fun K "_law_is_integer" "_law_is_integer" s_law_is_integer f_law_is_integer fd_law_is_integer
  b_law_is_integer : Binds K fd_law_is_integer ["actual"] []
  g_law_is_integer : mg "_law_is_integer" = some (.ref f_law_is_integer)
  f_law_command : Addr
  fd_law_command : FuncData
  F_law_command : Fun K "_law_command" "_law_command" s_law_command f_law_command fd_law_command
  b_law_command : Binds K fd_law_command ["drawn", "names", "text", "cell"] []
  g_law_command : mg "_law_command" = some (.ref f_law_command)
  f_law_line : Addr
  fd_law_line : FuncData
  F_law_line : Fun K "_law_line" "_law_line" s_law_line f_law_line fd_law_line
  b_law_line : Binds K fd_law_line ["command"] []
  g_law_line : mg "_law_line" = some (.ref f_law_line)
  f_law_integer : Addr
  fd_law_integer : FuncData
  F_law_integer : Fun K "_law_integer" "_law_integer" s_law_integer f_law_integer fd_law_integer
  b_law_integer : Binds K fd_law_integer ["text"] []
  g_law_integer : mg "_law_integer" = some (.ref f_law_integer)
  f_law_is_name : Addr
  fd_law_is_name : FuncData
  F_law_is_name : Fun K "_law_is_name" "_law_is_name" s_law_is_name f_law_is_name fd_law_is_name
  b_law_is_name : Binds K fd_law_is_name ["text"] []
  g_law_is_name : mg "_law_is_name" = some (.ref f_law_is_name)
  f_law_put_reading : Addr
  fd_law_put_reading : FuncData
  F_law_put_reading : Fun K "_law_put_reading" "_law_put_reading" s_law_put_reading f_law_put_reading fd_law_put_reading
  b_law_put_reading : Binds K fd_law_put_reading ["rest"] []
  g_law_put_reading : mg "_law_put_reading" = some (.ref f_law_put_reading)
  f_law_reading : Addr
  fd_law_reading : FuncData
  F_law_reading : Fun K "_law_reading" "_law_reading" s_law_reading f_law_reading fd_law_reading
  b_law_reading : Binds K fd_law_reading ["line"] []
  g_law_reading : mg "_law_reading" = some (.ref f_law_reading)
  f_law_odd_part : Addr
  fd_law_odd_part : FuncData
  F_law_odd_part : Fun K "_law_odd_part" "_law_odd_part" s_law_odd_part f_law_odd_part fd_law_odd_part
  b_law_odd_part : Binds K fd_law_odd_part ["number"] []
  g_law_odd_part : mg "_law_odd_part" = some (.ref f_law_odd_part)
  f_law_odd_line : Addr
  fd_law_odd_line : FuncData
  F_law_odd_line : Fun K "_law_odd_line" "_law_odd_line" s_law_odd_line f_law_odd_line fd_law_odd_line
  b_law_odd_line : Binds K fd_law_odd_line ["number"] []
  g_law_odd_line : mg "_law_odd_line" = some (.ref f_law_odd_line)
  f_law_odd_seats : Addr
  fd_law_odd_seats : FuncData
  F_law_odd_seats : Fun K "_law_odd_seats" "_law_odd_seats" s_law_odd_seats f_law_odd_seats fd_law_odd_seats
  b_law_odd_seats : Binds K fd_law_odd_seats ["number", "odd"] []
  g_law_odd_seats : mg "_law_odd_seats" = some (.ref f_law_odd_seats)
  f_law_replaced : Addr
  fd_law_replaced : FuncData
  F_law_replaced : Fun K "_law_replaced" "_law_replaced" s_law_replaced f_law_replaced fd_law_replaced
  b_law_replaced : Binds K fd_law_replaced ["command", "line", "odd", "which"] []
  g_law_replaced : mg "_law_replaced" = some (.ref f_law_replaced)
  f_law_other_line : Addr
  fd_law_other_line : FuncData
  F_law_other_line : Fun K "_law_other_line" "_law_other_line" s_law_other_line f_law_other_line fd_law_other_line
  b_law_other_line : Binds K fd_law_other_line ["command", "line", "cell"] []
  g_law_other_line : mg "_law_other_line" = some (.ref f_law_other_line)
  f_law_alike : Addr
  fd_law_alike : FuncData
  F_law_alike : Fun K "_law_alike" "_law_alike" s_law_alike f_law_alike fd_law_alike
  b_law_alike : Binds K fd_law_alike ["told", "due"] []
  g_law_alike : mg "_law_alike" = some (.ref f_law_alike)
  f_law_parsed : Addr
  fd_law_parsed : FuncData
  F_law_parsed : Fun K "_law_parsed" "_law_parsed" s_law_parsed f_law_parsed fd_law_parsed
  b_law_parsed : Binds K fd_law_parsed ["line"] []
  g_law_parsed : mg "_law_parsed" = some (.ref f_law_parsed)
  f_law_there_and_back : Addr
  fd_law_there_and_back : FuncData
  F_law_there_and_back : Fun K "_law_there_and_back" "_law_there_and_back" s_law_there_and_back f_law_there_and_back fd_law_there_and_back
  b_law_there_and_back : Binds K fd_law_there_and_back ["command", "line"] []
  g_law_there_and_back : mg "_law_there_and_back" = some (.ref f_law_there_and_back)
  f_law_judged : Addr
  fd_law_judged : FuncData
  F_law_judged : Fun K "_law_judged" "_law_judged" s_law_judged f_law_judged fd_law_judged
  b_law_judged : Binds K fd_law_judged ["line"] []
  g_law_judged : mg "_law_judged" = some (.ref f_law_judged)
  f_law : Addr
  fd_law : FuncData
  F_law : Fun K "law" "law" s_law f_law fd_law
  b_law : Binds K fd_law ["script"] []
  g_law : mg "law" = some (.ref f_law)
section
variable {P : Program} {w : World} {K : PySem.W.Frag} {mg : Str → Option Value} {base : Heap}
theorem scI_InvalidLine : FnScope ["self", "text"] ["self", "text"] (defScope sI_InvalidLine) := ⟨rfl, rfl, rfl, by decide +kernel, rfl, by decide +kernel, by decide +kernel⟩
theorem okI_InvalidLine (T : Txt K mg w) : FnOk P w K mg base CX0 1 T.fI_InvalidLine T.fdI_InvalidLine ["self", "text"] (Zr.spXI T.c.InvalidLine "text") := Zr.fnXI (k := 0) T.FI_InvalidLine scI_InvalidLine T.oe_InvalidLine T.hn_InvalidLine_text (fun cdv A outer s H E hr => pss_one (ps_ost (pv 0) (pv 1)))
theorem sc_is_name : FnScope N_is_name ["word"] (defScope s_is_name) := ⟨rfl, rfl, rfl, by decide +kernel, rfl, by decide +kernel, by decide +kernel⟩
theorem ok_is_name (T : Txt K mg w) : FnOk P w K mg base CX0 1 T.f_is_name T.fd_is_name ["word"] (spG K 1 (g_is_name)) := by
  refine fnG (m := 1) T.F_is_name sc_is_name rfl rfl (fun cdv A outer s H E hr => ?_)
  have hu := hr.units
  refine ⟨_, (pss_one (ps_ret (pe_and (pe_chain op_le op_le pe_int (pe_callB call_lenA (by rfl) T.m_len bt_len (pa_cons (pv 0) pa_nil)) pe_int) (pe_one (pe_callB (cr_all rfl) (by rfl) T.m_all bt_all (pa_cons (pe_lc (own := [("char", 1)]) (g := (gName 1)) (tt := tYes) (te := (tOrV (tChain Zj.rLeT Zj.rLeT (tC (.str "a")) (tVar 1) (tC (.str "z"))) (tChain Zj.rLeT Zj.rLeT (tC (.str "0")) (tVar 1) (tC (.str "9"))))) rfl sc_is_name.nd (pi_str (pv 0)) (blkOk_by (N := N_is_name) (sc := defScope s_is_name) (by decide +kernel)) (fun _ _ _ _ _ => (pg_name (i := 1) sc_is_name.nd rfl (by first | exact Or.inl rfl | exact Or.inr rfl))) (fun _ _ _ _ _ => pts_nil) (fun _ _ _ _ _ => (pe_or (pe_chain op_le_str op_le_str pe_str (pv 1) pe_str) (pe_one (pe_chain op_le_str op_le_str pe_str (pv 1) pe_str))))) pa_nil)))))), ?_⟩
  exact ((sr_ret (er_and (er_chain rr_le rr_le er_int (er_n rc_len (ar_cons (er_var 0) ar_nil)) er_int) (er_n rc_all (ar_cons (er_of_eo (eo_lc (vs := [1]) (Zra.ir_str (er_var 0)) (grc_name (j := 1) (by decide)) tr_yes (er_or (er_chain Zj.rr_leT Zj.rr_leT er_str (er_var 1) er_str) (er_chain Zj.rr_leT Zj.rr_leT er_str (er_var 1) er_str)))) ar_nil)))) : SR K _ (t_is_name))
theorem sc_is_number : FnScope N_is_number ["word"] (defScope s_is_number) := ⟨rfl, rfl, rfl, by decide +kernel, rfl, by decide +kernel, by decide +kernel⟩
theorem ok_is_number (T : Txt K mg w) : FnOk P w K mg base CX0 1 T.f_is_number T.fd_is_number ["word"] (spG K 1 (g_is_number)) := by
  refine fnG (m := 0) T.F_is_number sc_is_number rfl rfl (fun cdv A outer s H E hr => ?_)
  have hu := hr.units
  refine ⟨_, (pss_one (ps_ret (pe_and (pe_m0 PySem.F.slot_str_isdigit PySem.F.type_str_isdigit mt_isdigit (pv 0)) (pe_one (pe_or (pe_cmpR (op_eqD hu) (pv 0) pe_str (nomark _)) (pe_one (pe_not (pe_m1 PySem.F.slot_str_startswith PySem.F.type_str_startswith mt_startswith (pv 0) pe_str)))))))), ?_⟩
  exact ((sr_ret (er_and (Zj.er_m0 Zj.rm_isdigit (er_var 0)) (er_or (er_2 rr_eq (er_var 0) er_str) (er_not (Zj.er_m1 Zj.rm_starts (er_var 0) er_str))))) : SR K _ (t_is_number))
theorem sc_joined : FnScope N_joined ["numbers"] (defScope s_joined) := ⟨rfl, rfl, rfl, by decide +kernel, rfl, by decide +kernel, by decide +kernel⟩
theorem ok_joined (T : Txt K mg w) : FnOk P w K mg base CX0 1 T.f_joined T.fd_joined ["numbers"] (spG K 1 (g_joined)) := by
  refine fnG (m := 1) T.F_joined sc_joined rfl rfl (fun cdv A outer s H E hr => ?_)
  have hu := hr.units
  refine ⟨_, (pss_one (ps_ret (pe_m1 PySem.F.slot_str_join PySem.F.type_str_join mt_join pe_str (pe_lc (own := [("number", 1)]) (g := (gName 1)) (tt := tYes) (te := (tCB Zj.rStrI (tCons (tVar 1) tNil))) rfl sc_joined.nd (pi_seq (pv 0)) (blkOk_by (N := N_joined) (sc := defScope s_joined) (by decide +kernel)) (fun _ _ _ _ _ => (pg_name (i := 1) sc_joined.nd rfl (by first | exact Or.inl rfl | exact Or.inr rfl))) (fun _ _ _ _ _ => pts_nil) (fun _ _ _ _ _ => (pe_callTy call_str_int (by rfl) T.m_str bt_str (pa_cons (pv 1) pa_nil))))))), ?_⟩
  exact ((sr_ret (Zj.er_m1 Zj.rm_join er_str (er_of_eo (eo_lc (vs := [1]) (ir_seq (er_var 0)) (grc_name (j := 1) (by decide)) tr_yes (er_n Zj.rc_str (ar_cons (er_var 1) ar_nil)))))) : SR K _ (t_joined))
theorem sc_read_joined : FnScope N_read_joined ["word"] (defScope s_read_joined) := ⟨rfl, rfl, rfl, by decide +kernel, rfl, by decide +kernel, by decide +kernel⟩
theorem ok_read_joined (T : Txt K mg w) : FnOk P w K mg base CX0 2 T.f_read_joined T.fd_read_joined ["word"] (spG K 1 (g_read_joined)) := by
  have G_is_number := ok_is_number (P := P) (w := w) (base := base) T
  refine fnG (m := 2) T.F_read_joined sc_read_joined rfl rfl (fun cdv A outer s H E hr => ?_)
  have hu := hr.units
  refine ⟨_, (pss_cons (ps_set (i := 1) sc_read_joined.nd rfl (by first | exact Or.inl rfl | exact Or.inr rfl) (pe_m1 PySem.F.slot_str_split PySem.F.type_str_split mt_split (pv 0) pe_str))
 (pss_one (ps_ret (pe_ifExp (pt_truth (pe_callB (cr_all rfl) (by rfl) T.m_all bt_all (pa_cons (pe_lc (own := [("part", 2)]) (g := (gName 2)) (tt := tYes) (te := (tCall (spG K 1 (g_is_number)) [] E0 (tCons (tVar 2) tNil))) rfl sc_read_joined.nd (pi_seq (pv 1)) (blkOk_by (N := N_read_joined) (sc := defScope s_read_joined) (by decide +kernel)) (fun _ _ _ _ _ => (pg_name (i := 2) sc_read_joined.nd rfl (by first | exact Or.inl rfl | exact Or.inr rfl))) (fun _ _ _ _ _ => pts_nil) (fun _ _ _ _ _ => (pe_call G_is_number (hr.mono (by decide)) (by rfl) T.g_is_number T.F_is_number.kp T.b_is_number .nil pass0 (pa_cons (pv 2) pa_nil)))) pa_nil)) (fun _ => rfl)) (pe_lc (own := [("part", 2)]) (g := (gName 2)) (tt := tYes) (te := (tCB Zj.rIntS (tCons (tVar 2) tNil))) rfl sc_read_joined.nd (pi_seq (pv 1)) (blkOk_by (N := N_read_joined) (sc := defScope s_read_joined) (by decide +kernel)) (fun _ _ _ _ _ => (pg_name (i := 2) sc_read_joined.nd rfl (by first | exact Or.inl rfl | exact Or.inr rfl))) (fun _ _ _ _ _ => pts_nil) (fun _ _ _ _ _ => (pe_callTy call_int_str (by rfl) T.m_int bt_int (pa_cons (pv 2) pa_nil)))) pe_non)))), ?_⟩
  exact ((sr_seq (sr_asg (Zj.er_m1 Zj.rm_split (er_var 0) er_str) (gr'_name 1))
 (sr_ret (er_if (tr_tru (er_n rc_all (ar_cons (er_of_eo (eo_lc (vs := [2]) (ir_seq (er_var 1)) (grc_name (j := 2) (by decide)) tr_yes (er_call (ar_cons (er_var 2) ar_nil)))) ar_nil))) (er_of_eo (eo_lc (vs := [2]) (ir_seq (er_var 1)) (grc_name (j := 2) (by decide)) tr_yes (er_n Zj.rc_intS (ar_cons (er_var 2) ar_nil)))) er_non))) : SR K _ (t_read_joined))
theorem sc_put_line : FnScope N_put_line ["command"] (defScope s_put_line) := ⟨rfl, rfl, rfl, by decide +kernel, rfl, by decide +kernel, by decide +kernel⟩
theorem ok_put_line (T : Txt K mg w) : FnOk P w K mg base CX0 2 T.f_put_line T.fd_put_line ["command"] (spG K 1 (g_put_line)) := by
  have G_joined := ok_joined (P := P) (w := w) (base := base) T
  refine fnG (m := 5) T.F_put_line sc_put_line rfl rfl (fun cdv A outer s H E hr => ?_)
  have hu := hr.units
  refine ⟨_, (pss_cons (ps_asg (pv 0) (pg_tup rfl (pgs_cons (pg_name (i := 1) sc_put_line.nd rfl (by first | exact Or.inl rfl | exact Or.inr rfl)) (pgs_cons (pg_name (i := 2) sc_put_line.nd rfl (by first | exact Or.inl rfl | exact Or.inr rfl)) (pgs_cons (pg_name (i := 3) sc_put_line.nd rfl (by first | exact Or.inl rfl | exact Or.inr rfl)) (pgs_cons (pg_name (i := 4) sc_put_line.nd rfl (by first | exact Or.inl rfl | exact Or.inr rfl)) pgs_nil))))))
 (pss_cons (ps_set (i := 5) sc_put_line.nd rfl (by first | exact Or.inl rfl | exact Or.inr rfl) (pe_ifExp (pt_truth (pv 3) (fun _ => rfl)) (pe_op op_addA pe_str (pe_call G_joined (hr.mono (by decide)) (by rfl) T.g_joined T.F_joined.kp T.b_joined .nil pass0 (pa_cons (pv 3) pa_nil))) pe_str))
 (pss_one (ps_ret (pe_joined (.cons pe_str (.cons (pe_fmt (pv 2)) (.cons (pe_fmt (pv 5)) (.cons pe_str (.cons (pe_fmt (pv 4)) .nil)))))))))), ?_⟩
  exact ((sr_seq (sr_asg (er_var 0) (gr'_tup (n := 4) (grs'_cons (gr'_name 1) (grs'_cons (gr'_name 2) (grs'_cons (gr'_name 3) (grs'_cons (gr'_name 4) grs'_nil))))))
 (sr_seq (sr_asg (er_if (tr_tru (er_var 3)) (er_2 rr_add er_str (er_call (ar_cons (er_var 3) ar_nil))) er_str) (gr'_name 5))
 (sr_ret (Zj.er_joined (.cons er_str (.cons (Zj.er_fmt (er_var 2)) (.cons (Zj.er_fmt (er_var 5)) (.cons er_str (.cons (Zj.er_fmt (er_var 4)) .nil))))))))) : SR K _ (t_put_line))
theorem sc_command_line : FnScope N_command_line ["command"] (defScope s_command_line) := ⟨rfl, rfl, rfl, by decide +kernel, rfl, by decide +kernel, by decide +kernel⟩
theorem ok_command_line (T : Txt K mg w) : FnOk P w K mg base CX0 3 T.f_command_line T.fd_command_line ["command"] (spG K 1 (g_command_line)) := by
  have G_put_line := ok_put_line (P := P) (w := w) (base := base) T
  refine fnG (m := 1) T.F_command_line sc_command_line rfl rfl (fun cdv A outer s H E hr => ?_)
  have hu := hr.units
  refine ⟨_, (pss_cons (ps_if (pt_cmpR (op_eqD hu) (pe_ix ix_seq (pv 0) pe_int (fun _ _ => rfl)) pe_str (nomark _))
 (pss_one (ps_ret (pe_call G_put_line (hr.mono (by decide)) (by rfl) T.g_put_line T.F_put_line.kp T.b_put_line .nil pass0 (pa_cons (pv 0) pa_nil))))
 pss_nil)
 (pss_one (ps_ret (pe_m1 PySem.F.slot_str_join PySem.F.type_str_join mt_join pe_str (pe_lc (own := [("part", 1)]) (g := (gName 1)) (tt := tYes) (te := (tCB Zrd.rStrA (tCons (tVar 1) tNil))) rfl sc_command_line.nd (pi_seq (pv 0)) (blkOk_by (N := N_command_line) (sc := defScope s_command_line) (by decide +kernel)) (fun _ _ _ _ _ => (pg_name (i := 1) sc_command_line.nd rfl (by first | exact Or.inl rfl | exact Or.inr rfl))) (fun _ _ _ _ _ => pts_nil) (fun _ _ _ _ _ => (pe_callTy Zrd.call_strA (by rfl) T.m_str bt_str (pa_cons (pv 1) pa_nil)))))))), ?_⟩
  exact ((sr_seq (sr_if (tr_test (er_2 rr_eq (er_2 rr_ix (er_var 0) er_int) er_str))
 (sr_ret (er_call (ar_cons (er_var 0) ar_nil)))
 sr_next)
 (sr_ret (Zj.er_m1 Zj.rm_join er_str (er_of_eo (eo_lc (vs := [1]) (ir_seq (er_var 0)) (grc_name (j := 1) (by decide)) tr_yes (er_n Zrd.rc_strA (ar_cons (er_var 1) ar_nil))))))) : SR K _ (t_command_line))
theorem sc_read_put : FnScope N_read_put ["rest"] (defScope s_read_put) := ⟨rfl, rfl, rfl, by decide +kernel, rfl, by decide +kernel, by decide +kernel⟩
theorem ok_read_put (T : Txt K mg w) : FnOk P w K mg base CX0 3 T.f_read_put T.fd_read_put ["rest"] (spG K 1 (g_read_put)) := by
  have G_read_joined := ok_read_joined (P := P) (w := w) (base := base) T
  have G_is_name := ok_is_name (P := P) (w := w) (base := base) T
  refine fnG (m := 7) T.F_read_put sc_read_put rfl rfl (fun cdv A outer s H E hr => ?_)
  have hu := hr.units
  refine ⟨_, (pss_cons (ps_asg (pe_m1 PySem.F.slot_str_partition PySem.F.type_str_partition mt_partition (pv 0) pe_str) (pg_tup rfl (pgs_cons (pg_name (i := 1) sc_read_put.nd rfl (by first | exact Or.inl rfl | exact Or.inr rfl)) (pgs_cons (pg_name (i := 2) sc_read_put.nd rfl (by first | exact Or.inl rfl | exact Or.inr rfl)) (pgs_cons (pg_name (i := 3) sc_read_put.nd rfl (by first | exact Or.inl rfl | exact Or.inr rfl)) pgs_nil)))))
 (pss_cons (ps_asg (pe_m1 PySem.F.slot_str_partition PySem.F.type_str_partition mt_partition (pv 1) pe_str) (pg_tup rfl (pgs_cons (pg_name (i := 4) sc_read_put.nd rfl (by first | exact Or.inl rfl | exact Or.inr rfl)) (pgs_cons (pg_name (i := 5) sc_read_put.nd rfl (by first | exact Or.inl rfl | exact Or.inr rfl)) (pgs_cons (pg_name (i := 6) sc_read_put.nd rfl (by first | exact Or.inl rfl | exact Or.inr rfl)) pgs_nil)))))
 (pss_cons (ps_set (i := 7) sc_read_put.nd rfl (by first | exact Or.inl rfl | exact Or.inr rfl) (pe_ifExp (pt_truth (pv 5) (fun _ => rfl)) (pe_call G_read_joined (hr.mono (by decide)) (by rfl) T.g_read_joined T.F_read_joined.kp T.b_read_joined .nil pass0 (pa_cons (pv 6) pa_nil)) (pe_lst pa_nil)))
 (pss_cons (ps_if ((pw_or (pt_not (pt_truth (pv 2) (fun _ => rfl))) (pw_or (pt_not (pt_truth (pe_call G_is_name (hr.mono (by decide)) (by rfl) T.g_is_name T.F_is_name.kp T.b_is_name .nil pass0 (pa_cons (pv 4) pa_nil)) (fun _ => rfl))) (pw_or1 (pt_cmpR op_isN (pv 7) pe_non (nomark _)))))).pt
 (pss_one (ps_ret pe_non))
 pss_nil)
 (pss_one (ps_ret (pe_tup (pa_cons pe_str (pa_cons (pv 4) (pa_cons (pe_callTy call_tuple_of (by rfl) T.m_tuple bt_tuple (pa_cons (pv 7) pa_nil)) (pa_cons (pv 3) pa_nil))))))))))), ?_⟩
  exact ((sr_seq (sr_asg (Zj.er_m1 Zj.rm_part (er_var 0) er_str) (gr'_tup (n := 3) (grs'_cons (gr'_name 1) (grs'_cons (gr'_name 2) (grs'_cons (gr'_name 3) grs'_nil)))))
 (sr_seq (sr_asg (Zj.er_m1 Zj.rm_part (er_var 1) er_str) (gr'_tup (n := 3) (grs'_cons (gr'_name 4) (grs'_cons (gr'_name 5) (grs'_cons (gr'_name 6) grs'_nil)))))
 (sr_seq (sr_asg (er_if (tr_tru (er_var 5)) (er_call (ar_cons (er_var 6) ar_nil)) (er_lst ar_nil)) (gr'_name 7))
 (sr_seq (sr_if (tr_or (tr_not (tr_tru (er_var 2))) (tr_or (tr_not (tr_tru (er_call (ar_cons (er_var 4) ar_nil)))) (tr_test (er_2 rr_is (er_var 7) er_non))))
 (sr_ret er_non)
 sr_next)
 (sr_ret (er_tup (ar_cons er_str (ar_cons (er_var 4) (ar_cons (er_n rc_tuple (ar_cons (er_var 7) ar_nil)) (ar_cons (er_var 3) ar_nil)))))))))) : SR K _ (t_read_put))
theorem sc_read_line : FnScope N_read_line ["line"] (defScope s_read_line) := ⟨rfl, rfl, rfl, by decide +kernel, rfl, by decide +kernel, by decide +kernel⟩
theorem ok_read_line (T : Txt K mg w) : FnOk P w K mg base CX0 4 T.f_read_line T.fd_read_line ["line"] (spG K 1 (g_read_line T.c)) := by
  have G_read_put := ok_read_put (P := P) (w := w) (base := base) T
  have G_is_name := ok_is_name (P := P) (w := w) (base := base) T
  have G_is_number := ok_is_number (P := P) (w := w) (base := base) T
  refine fnG (m := 5) T.F_read_line sc_read_line rfl rfl (fun cdv A outer s H E hr => ?_)
  have hu := hr.units
  refine ⟨_, (pss_cons (ps_asg (pe_m1 PySem.F.slot_str_partition PySem.F.type_str_partition mt_partition (pv 0) pe_str) (pg_tup rfl (pgs_cons (pg_name (i := 1) sc_read_line.nd rfl (by first | exact Or.inl rfl | exact Or.inr rfl)) (pgs_cons (pg_name (i := 2) sc_read_line.nd rfl (by first | exact Or.inl rfl | exact Or.inr rfl)) (pgs_cons (pg_name (i := 3) sc_read_line.nd rfl (by first | exact Or.inl rfl | exact Or.inr rfl)) pgs_nil)))))
 (pss_cons (ps_if (pt_cmpR (op_eqD hu) (pv 1) pe_str (nomark _))
 (pss_one (ps_ret (pe_call G_read_put (hr.mono (by decide)) (by rfl) T.g_read_put T.F_read_put.kp T.b_read_put .nil pass0 (pa_cons (pv 3) pa_nil))))
 pss_nil)
 (pss_cons (ps_if (pt_cmpR op_in_seq (pv 0) (pe_glob (v := .ref T.kt_ALONE) (by rfl) T.kq_ALONE rfl) (by rfl))
 (pss_one (ps_ret (pe_tup (pa_cons (pv 0) pa_nil))))
 pss_nil)
 (pss_cons (ps_if (pt_cmpR op_in_seq (pv 1) (pe_glob (v := .ref T.kt_NAMED) (by rfl) T.kq_NAMED rfl) (by rfl))
 (pss_one (ps_ret (pe_ifExp (pt_truth (pe_call G_is_name (hr.mono (by decide)) (by rfl) T.g_is_name T.F_is_name.kp T.b_is_name .nil pass0 (pa_cons (pv 3) pa_nil)) (fun _ => rfl)) (pe_tup (pa_cons (pv 1) (pa_cons (pv 3) pa_nil))) pe_non)))
 pss_nil)
 (pss_cons (ps_set (i := 4) sc_read_line.nd rfl (by first | exact Or.inl rfl | exact Or.inr rfl) (pe_m1 PySem.F.slot_str_split PySem.F.type_str_split mt_split (pv 3) pe_str))
 (pss_cons (ps_if ((pw_or (pt_cmpR (op_neD hu) (pe_callB call_lenA (by rfl) T.m_len bt_len (pa_cons (pv 4) pa_nil)) (Zrd.pe_getK T.kd_NUMBERED (pe_glob (v := .ref T.kt_NUMBERED) (by rfl) T.kq_NUMBERED rfl) (pv 1) ⟨rfl, rfl, rfl, rfl⟩) (nomark _)) (pw_or1 (pt_not (pt_truth (pe_callB (cr_all rfl) (by rfl) T.m_all bt_all (pa_cons (pe_lc (own := [("part", 5)]) (g := (gName 5)) (tt := tYes) (te := (tCall (spG K 1 (g_is_number)) [] E0 (tCons (tVar 5) tNil))) rfl sc_read_line.nd (pi_seq (pv 4)) (blkOk_by (N := N_read_line) (sc := defScope s_read_line) (by decide +kernel)) (fun _ _ _ _ _ => (pg_name (i := 5) sc_read_line.nd rfl (by first | exact Or.inl rfl | exact Or.inr rfl))) (fun _ _ _ _ _ => pts_nil) (fun _ _ _ _ _ => (pe_call G_is_number (hr.mono (by decide)) (by rfl) T.g_is_number T.F_is_number.kp T.b_is_number .nil pass0 (pa_cons (pv 5) pa_nil)))) pa_nil)) (fun _ => rfl)))))).pt
 (pss_one (ps_ret pe_non))
 pss_nil)
 (pss_one (ps_ret (pe_callTy call_tuple_of (by rfl) T.m_tuple bt_tuple (pa_cons (pe_op op_addA (pe_lst (pa_cons (pv 1) pa_nil)) (pe_lc (own := [("part", 5)]) (g := (gName 5)) (tt := tYes) (te := (tCB Zj.rIntS (tCons (tVar 5) tNil))) rfl sc_read_line.nd (pi_seq (pv 4)) (blkOk_by (N := N_read_line) (sc := defScope s_read_line) (by decide +kernel)) (fun _ _ _ _ _ => (pg_name (i := 5) sc_read_line.nd rfl (by first | exact Or.inl rfl | exact Or.inr rfl))) (fun _ _ _ _ _ => pts_nil) (fun _ _ _ _ _ => (pe_callTy call_int_str (by rfl) T.m_int bt_int (pa_cons (pv 5) pa_nil))))) pa_nil)))))))))), ?_⟩
  exact ((sr_seq (sr_asg (Zj.er_m1 Zj.rm_part (er_var 0) er_str) (gr'_tup (n := 3) (grs'_cons (gr'_name 1) (grs'_cons (gr'_name 2) (grs'_cons (gr'_name 3) grs'_nil)))))
 (sr_seq (sr_if (tr_test (er_2 rr_eq (er_var 1) er_str))
 (sr_ret (er_call (ar_cons (er_var 3) ar_nil)))
 sr_next)
 (sr_seq (sr_if (tr_test (Zrc.er_inK T.ks_ALONE (er_var 0)))
 (sr_ret (er_tup (ar_cons (er_var 0) ar_nil)))
 sr_next)
 (sr_seq (sr_if (tr_test (Zrc.er_inK T.ks_NAMED (er_var 1)))
 (sr_ret (er_if (tr_tru (er_call (ar_cons (er_var 3) ar_nil))) (er_tup (ar_cons (er_var 1) (ar_cons (er_var 3) ar_nil))) er_non))
 sr_next)
 (sr_seq (sr_asg (Zj.er_m1 Zj.rm_split (er_var 3) er_str) (gr'_name 4))
 (sr_seq (sr_if (tr_or (tr_test (er_2 rr_ne (er_n rc_len (ar_cons (er_var 4) ar_nil)) (Zrd.er_getK (er_var 1)))) (tr_not (tr_tru (er_n rc_all (ar_cons (er_of_eo (eo_lc (vs := [5]) (ir_seq (er_var 4)) (grc_name (j := 5) (by decide)) tr_yes (er_call (ar_cons (er_var 5) ar_nil)))) ar_nil)))))
 (sr_ret er_non)
 sr_next)
 (sr_ret (er_n rc_tuple (ar_cons (er_2 rr_add (er_lst (ar_cons (er_var 1) ar_nil)) (er_of_eo (eo_lc (vs := [5]) (ir_seq (er_var 4)) (grc_name (j := 5) (by decide)) tr_yes (er_n Zj.rc_intS (ar_cons (er_var 5) ar_nil))))) ar_nil))))))))) : SR K _ (t_read_line T.c))
theorem sc_parse_line : FnScope N_parse_line ["line"] (defScope s_parse_line) := ⟨rfl, rfl, rfl, by decide +kernel, rfl, by decide +kernel, by decide +kernel⟩
theorem ok_parse_line (T : Txt K mg w) : FnOk P w K mg base CX0 5 T.f_parse_line T.fd_parse_line ["line"] (spG K 1 (g_parse_line T.c)) := by
  have G_read_line := ok_read_line (P := P) (w := w) (base := base) T
  refine fnG (m := 1) T.F_parse_line sc_parse_line rfl rfl (fun cdv A outer s H E hr => ?_)
  have hu := hr.units
  refine ⟨_, (pss_cons (ps_set (i := 1) sc_parse_line.nd rfl (by first | exact Or.inl rfl | exact Or.inr rfl) (pe_ifExp (pt_cmpR op_in_str pe_str (pv 0) (by rfl)) pe_non (pe_call G_read_line (hr.mono (by decide)) (by rfl) T.g_read_line T.F_read_line.kp T.b_read_line .nil pass0 (pa_cons (pv 0) pa_nil))))
 (pss_cons (ps_if (pt_cmpR op_isN (pv 1) pe_non (nomark _))
 (pss_one ps_never)
 pss_nil)
 (pss_one (ps_ret (pv 1))))), ?_⟩
  exact ((sr_seq (sr_asg (er_if (tr_test (er_2 Zj.rr_inT er_str (er_var 0))) er_non (er_call (ar_cons (er_var 0) ar_nil))) (gr'_name 1))
 (sr_seq (sr_if (tr_test (er_2 rr_is (er_var 1) er_non))
 sr_never
 sr_next)
 (sr_ret (er_var 1)))) : SR K _ (t_parse_line T.c))
theorem okr_parse_line (T : Txt K mg w) : FnOk P w K mg base (L2N.CX P w) 5 T.f_parse_line T.fd_parse_line ["line"] (Zr.spX K 1 (gr_parse_line T.c)) := by
  have G_read_line := ok_read_line (P := P) (w := w) (base := base) T
  refine Zre.fnXN (m := 1) T.F_parse_line sc_parse_line rfl rfl (fun cdv A outer s H E hr tk => ?_)
  have hu := hr.units
  refine ⟨_, (pss_cons (Zx.ps_nox (ps_set (i := 1) sc_parse_line.nd rfl (by first | exact Or.inl rfl | exact Or.inr rfl) (pe_ifExp (pt_cmpR op_in_str pe_str (pv 0) (by rfl)) pe_non (pe_call G_read_line (hr.mono (by decide)) (by rfl) T.g_read_line T.F_read_line.kp T.b_read_line .nil pass0 (pa_cons (pv 0) pa_nil)))))
 (pss_cons (ps_if (PT.nox (pt_cmpR op_isN (pv 1) pe_non (nomark _)))
 (pss_one (L2N.ps_raise rfl tk (Zre.pmkN T.oe_InvalidLine T.iC_InvalidLine T.tI_InvalidLine (okI_InvalidLine (P := P) (w := w) (base := base) T) (hr.mono (by decide)) T.bI_InvalidLine pass0 (by rfl) T.c_InvalidLine (pa_cons (pv 0) pa_nil))))
 pss_nil)
 (PSs.nox (pss_one (ps_ret (pv 1)))))), ?_⟩
  exact ((Zr.xs_seq Zr.xs_no (sr_asg (er_if (tr_test (er_2 Zj.rr_inT er_str (er_var 0))) er_non (er_call (ar_cons (er_var 0) ar_nil))) (gr'_name 1))
 (Zr.xs_seq (Zr.xs_if (tr_test (er_2 rr_is (er_var 1) er_non))
 (Zr.xs_raise1 (er_var 0))
 Zr.xs_no) (sr_if (tr_test (er_2 rr_is (er_var 1) er_non))
 Zx.sr_neverX
 sr_next)
 Zr.xs_no)) : Zr.XS K _ _ (xr_parse_line T.c))
theorem sc_law_cell : FnScope N_law_cell ["script", "k"] (defScope s_law_cell) := ⟨rfl, rfl, rfl, by decide +kernel, rfl, by decide +kernel, by decide +kernel⟩
theorem ok_law_cell (T : Txt K mg w) : FnOk P w K mg base CX0 1 T.f_law_cell T.fd_law_cell ["script", "k"] (spG K 2 (g_law_cell)) := by
  refine fnG (m := 0) T.F_law_cell sc_law_cell rfl rfl (fun cdv A outer s H E hr => ?_)
  have hu := hr.units
  refine ⟨_, (pss_cons (ps_if (pt_cmpR op_lt (pv 1) (pe_callB call_lenA (by rfl) T.m_len bt_len (pa_cons (pv 0) pa_nil)) (nomark _))
 (pss_one (ps_ret (pe_ix ix_seq (pv 0) (pv 1) (fun _ _ => rfl))))
 pss_nil)
 (pss_one (ps_ret pe_int))), ?_⟩
  exact ((sr_seq (sr_if (tr_test (er_2 rr_lt (er_var 1) (er_n rc_len (ar_cons (er_var 0) ar_nil))))
 (sr_ret (er_2 rr_ix (er_var 0) (er_var 1)))
 sr_next)
 (sr_ret er_int)) : SR K _ (t_law_cell))
theorem sc_law_draws : FnScope N_law_draws ["cell", "sizes"] (defScope s_law_draws) := ⟨rfl, rfl, rfl, by decide +kernel, rfl, by decide +kernel, by decide +kernel⟩
theorem ok_law_draws (T : Txt K mg w) : FnOk P w K mg base CX0 1 T.f_law_draws T.fd_law_draws ["cell", "sizes"] (spG K 2 (g_law_draws)) := by
  refine fnG (m := 6) T.F_law_draws sc_law_draws rfl rfl (fun cdv A outer s H E hr => ?_)
  have hu := hr.units
  refine ⟨_, (pss_cons (ps_set (i := 2) sc_law_draws.nd rfl (by first | exact Or.inl rfl | exact Or.inr rfl) (pe_callB call_abs (by rfl) T.m_abs bt_abs (pa_cons (pe_callTy call_int1 (by rfl) T.m_int bt_int (pa_cons (pv 0) pa_nil)) pa_nil)))
 (pss_cons (ps_set (i := 3) sc_law_draws.nd rfl (by first | exact Or.inl rfl | exact Or.inr rfl) (pe_cmpR op_ge (pv 2) (pe_op op_pow pe_int pe_int) (nomark _)))
 (pss_cons (ps_set (i := 4) sc_law_draws.nd rfl (by first | exact Or.inl rfl | exact Or.inr rfl) (pe_lst pa_nil))
 (pss_cons (ps_for PassesOwn.never rfl (pi_range1 (by rfl) T.m_range (pa_cons (pe_callB call_lenA (by rfl) T.m_len bt_len (pa_cons (pv 1) pa_nil)) pa_nil)) (pg_name (i := 5) sc_law_draws.nd rfl (by first | exact Or.inl rfl | exact Or.inr rfl))
 (pss_cons (ps_set (i := 6) sc_law_draws.nd rfl (by first | exact Or.inl rfl | exact Or.inr rfl) (pe_ix ix_seq (pv 1) (pv 5) (fun _ _ => rfl)))
 (pss_one (ps_if ((pw_and (pt_truth (pv 3) (fun _ => rfl)) (pw_and1 (pt_cmpR op_gt (pv 2) pe_int (nomark _))))).pt
 (pss_cons (ps_expr (pe_bm PySem.F.plainAttrs_list PySem.F.slot_list_append PySem.F.type_list_append mt_append (pv 4) (pa_cons (pe_op op_mod (pe_callTy call_int1 (by rfl) T.m_int bt_int (pa_cons (pv 2) pa_nil)) (pv 6)) pa_nil)))
 (pss_one (ps_set (i := 2) sc_law_draws.nd rfl (by first | exact Or.inl rfl | exact Or.inr rfl) (pe_op op_fdivW (pv 2) (pv 6)))))
 (pss_cons (ps_set (i := 7) sc_law_draws.nd rfl (by first | exact Or.inl rfl | exact Or.inr rfl) (pe_op op_mod (pe_callTy call_int1 (by rfl) T.m_int bt_int (pa_cons (pe_op op_addA (pe_op op_addA (pe_callB call_abs (by rfl) T.m_abs bt_abs (pa_cons (pe_callTy call_int1 (by rfl) T.m_int bt_int (pa_cons (pv 0) pa_nil)) pa_nil)) (pe_op op_mulA pe_int (pv 5))) pe_int) pa_nil)) pe_int))
 (pss_cons (ps_set (i := 7) sc_law_draws.nd rfl (by first | exact Or.inl rfl | exact Or.inr rfl) (pe_op op_mod (pe_callTy call_int1 (by rfl) T.m_int bt_int (pa_cons (pe_op op_mulA (pv 7) (pe_op op_addA (pv 7) pe_int)) pa_nil)) pe_int))
 (pss_cons (ps_set (i := 7) sc_law_draws.nd rfl (by first | exact Or.inl rfl | exact Or.inr rfl) (pe_op op_mod (pe_callTy call_int1 (by rfl) T.m_int bt_int (pa_cons (pe_op op_addA (pe_op op_mulA (pv 7) (pe_op op_addA (pv 7) pe_int)) (pe_op op_mulA pe_int (pv 5))) pa_nil)) pe_int))
 (pss_one (ps_expr (pe_bm PySem.F.plainAttrs_list PySem.F.slot_list_append PySem.F.type_list_append mt_append (pv 4) (pa_cons (pe_op op_mod (pe_callTy call_int1 (by rfl) T.m_int bt_int (pa_cons (pe_op op_fdivW (pv 7) pe_int) pa_nil)) (pv 6)) pa_nil)))))))))))
 (pss_one (ps_ret (pv 4))))))), ?_⟩
  exact ((sr_seq (sr_asg (er_n rc_abs (ar_cons (er_n rc_int (ar_cons (er_var 0) ar_nil)) ar_nil)) (gr'_name 2))
 (sr_seq (sr_asg (er_2 rr_ge (er_var 2) (er_2 rr_pow er_int er_int)) (gr'_name 3))
 (sr_seq (sr_asgO (eo_lst ar_nil))
 (sr_seq (sr_for (ir_rng1 (ar_cons (er_n rc_len (ar_cons (er_var 1) ar_nil)) ar_nil)) (gr'_name 5)
 (sr_seq (sr_asg (er_2 rr_ix (er_var 1) (er_var 5)) (gr'_name 6))
 (sr_if (tr_and (tr_tru (er_var 3)) (tr_test (er_2 rr_gt (er_var 2) er_int)))
 (sr_seq (sr_app (i := 4) (er_2 rr_mod (er_n rc_int (ar_cons (er_var 2) ar_nil)) (er_var 6)))
 (sr_asg (er_2 rr_fdiv (er_var 2) (er_var 6)) (gr'_name 2)))
 (sr_seq (sr_asg (er_2 rr_mod (er_n rc_int (ar_cons (er_2 rr_add (er_2 rr_add (er_n rc_abs (ar_cons (er_n rc_int (ar_cons (er_var 0) ar_nil)) ar_nil)) (er_2 rr_mul er_int (er_var 5))) er_int) ar_nil)) er_int) (gr'_name 7))
 (sr_seq (sr_asg (er_2 rr_mod (er_n rc_int (ar_cons (er_2 rr_mul (er_var 7) (er_2 rr_add (er_var 7) er_int)) ar_nil)) er_int) (gr'_name 7))
 (sr_seq (sr_asg (er_2 rr_mod (er_n rc_int (ar_cons (er_2 rr_add (er_2 rr_mul (er_var 7) (er_2 rr_add (er_var 7) er_int)) (er_2 rr_mul er_int (er_var 5))) ar_nil)) er_int) (gr'_name 7))
 (sr_app (i := 4) (er_2 rr_mod (er_n rc_int (ar_cons (er_2 rr_fdiv (er_var 7) er_int) ar_nil)) (er_var 6)))))))))
 (sr_retV 4))))) : SR K _ (t_law_draws))
theorem sc_law_sign : FnScope N_law_sign ["number"] (defScope s_law_sign) := ⟨rfl, rfl, rfl, by decide +kernel, rfl, by decide +kernel, by decide +kernel⟩
theorem ok_law_sign (T : Txt K mg w) : FnOk P w K mg base CX0 1 T.f_law_sign T.fd_law_sign ["number"] (spG K 1 (g_law_sign)) := by
  refine fnG (m := 1) T.F_law_sign sc_law_sign rfl rfl (fun cdv A outer s H E hr => ?_)
  have hu := hr.units
  refine ⟨_, (pss_cons (ps_set (i := 1) sc_law_sign.nd rfl (by first | exact Or.inl rfl | exact Or.inr rfl) pe_str)
 (pss_cons (ps_set (i := 1) sc_law_sign.nd rfl (by first | exact Or.inl rfl | exact Or.inr rfl) (pe_op op_addA (pv 1) pe_str))
 (pss_one (ps_ret (pe_ix ix_seq (pv 1) (pe_op op_mod (pe_callTy call_int1 (by rfl) T.m_int bt_int (pa_cons (pv 0) pa_nil)) pe_int) (fun _ _ => rfl)))))), ?_⟩
  exact ((sr_seq (sr_asg er_str (gr'_name 1))
 (sr_seq (sr_asg (er_2 rr_add (er_var 1) er_str) (gr'_name 1))
 (sr_ret (er_2 rr_ix (er_var 1) (er_2 rr_mod (er_n rc_int (ar_cons (er_var 0) ar_nil)) er_int))))) : SR K _ (t_law_sign))
theorem sc_law_text : FnScope N_law_text ["cell", "size"] (defScope s_law_text) := ⟨rfl, rfl, rfl, by decide +kernel, rfl, by decide +kernel, by decide +kernel⟩
theorem ok_law_text (T : Txt K mg w) : FnOk P w K mg base CX0 2 T.f_law_text T.fd_law_text ["cell", "size"] (spG K 2 (g_law_text)) := by
  have G_law_draws := ok_law_draws (P := P) (w := w) (base := base) T
  have G_law_sign := ok_law_sign (P := P) (w := w) (base := base) T
  refine fnG (m := 2) T.F_law_text sc_law_text rfl rfl (fun cdv A outer s H E hr => ?_)
  have hu := hr.units
  refine ⟨_, (pss_cons (ps_set (i := 2) sc_law_text.nd rfl (by first | exact Or.inl rfl | exact Or.inr rfl) (pe_call G_law_draws (hr.mono (by decide)) (by rfl) T.g_law_draws T.F_law_draws.kp T.b_law_draws .nil pass0 (pa_cons (pv 0) (pa_cons (pe_lst (pa_cons pe_int (pa_cons pe_int (pa_cons pe_int (pa_cons pe_int (pa_cons pe_int (pa_cons pe_int pa_nil))))))) pa_nil))))
 (pss_one (ps_ret (pe_m1 PySem.F.slot_str_join PySem.F.type_str_join mt_join pe_str (pe_lc (own := [("k", 3)]) (g := (gName 3)) (tt := tYes) (te := (tCall (spG K 1 (g_law_sign)) [] E0 (tCons (tOp _ (tOp (rIx K) (tVar 2) (tOp _ (tCB _ (tCons (tOp _ (tVar 3) (tOp _ (tOp (rIx K) (tVar 2) (tC (.int 5))) (tC (.int 1)))) tNil)) (tC (.int 5)))) (tOp _ (tVar 3) (tC (.int 5)))) tNil))) rfl sc_law_text.nd (pi_range1 (by rfl) T.m_range (pa_cons (pv 1) pa_nil)) (blkOk_by (N := N_law_text) (sc := defScope s_law_text) (by decide +kernel)) (fun _ _ _ _ _ => (pg_name (i := 3) sc_law_text.nd rfl (by first | exact Or.inl rfl | exact Or.inr rfl))) (fun _ _ _ _ _ => pts_nil) (fun _ _ _ _ _ => (pe_call G_law_sign (hr.mono (by decide)) (by rfl) T.g_law_sign T.F_law_sign.kp T.b_law_sign .nil pass0 (pa_cons (pe_op op_addA (pe_ix ix_seq (pv 2) (pe_op op_mod (pe_callTy call_int1 (by rfl) T.m_int bt_int (pa_cons (pe_op op_mulA (pv 3) (pe_op op_addA (pe_ix ix_seq (pv 2) pe_int (fun _ _ => rfl)) pe_int)) pa_nil)) pe_int) (fun _ _ => rfl)) (pe_op op_fdivW (pv 3) pe_int)) pa_nil)))))))), ?_⟩
  exact ((sr_seq (sr_asg (er_call (ar_cons (er_var 0) (ar_cons (er_lst (ar_cons er_int (ar_cons er_int (ar_cons er_int (ar_cons er_int (ar_cons er_int (ar_cons er_int ar_nil))))))) ar_nil))) (gr'_name 2))
 (sr_ret (Zj.er_m1 Zj.rm_join er_str (er_of_eo (eo_lc (vs := [3]) (ir_rng1 (ar_cons (er_var 1) ar_nil)) (grc_name (j := 3) (by decide)) tr_yes (er_call (ar_cons (er_2 rr_add (er_2 rr_ix (er_var 2) (er_2 rr_mod (er_n rc_int (ar_cons (er_2 rr_mul (er_var 3) (er_2 rr_add (er_2 rr_ix (er_var 2) er_int) er_int)) ar_nil)) er_int)) (er_2 rr_fdiv (er_var 3) er_int)) ar_nil))))))) : SR K _ (t_law_text))
theorem sc_law_names : FnScope N_law_names ["cell"] (defScope s_law_names) := ⟨rfl, rfl, rfl, by decide +kernel, rfl, by decide +kernel, by decide +kernel⟩
theorem ok_law_names (T : Txt K mg w) : FnOk P w K mg base CX0 2 T.f_law_names T.fd_law_names ["cell"] (spG K 1 (g_law_names)) := by
  have G_law_draws := ok_law_draws (P := P) (w := w) (base := base) T
  refine fnG (m := 6) T.F_law_names sc_law_names rfl rfl (fun cdv A outer s H E hr => ?_)
  have hu := hr.units
  refine ⟨_, (pss_cons (ps_set (i := 1) sc_law_names.nd rfl (by first | exact Or.inl rfl | exact Or.inr rfl) (pe_call G_law_draws (hr.mono (by decide)) (by rfl) T.g_law_draws T.F_law_draws.kp T.b_law_draws .nil pass0 (pa_cons (pv 0) (pa_cons (pe_op op_addA (pe_op op_addA (pe_op op_mulA (pe_lst (pa_cons pe_int pa_nil)) pe_int) (pe_op op_mulA (pe_lst (pa_cons pe_int pa_nil)) pe_int)) (pe_op op_mulA (pe_lst (pa_cons pe_int pa_nil)) pe_int)) pa_nil))))
 (pss_cons (ps_set (i := 2) sc_law_names.nd rfl (by first | exact Or.inl rfl | exact Or.inr rfl) pe_str)
 (pss_cons (ps_set (i := 3) sc_law_names.nd rfl (by first | exact Or.inl rfl | exact Or.inr rfl) (pe_m1 PySem.F.slot_str_join PySem.F.type_str_join mt_join pe_str (pe_lc (own := [("k", 5)]) (g := (gName 5)) (tt := tYes) (te := (tOp (rIx K) (tVar 2) (tOp (rIx K) (tVar 1) (tVar 5)))) rfl sc_law_names.nd (pi_range1 (by rfl) T.m_range (pa_cons pe_int pa_nil)) (blkOk_by (N := N_law_names) (sc := defScope s_law_names) (by decide +kernel)) (fun _ _ _ _ _ => (pg_name (i := 5) sc_law_names.nd rfl (by first | exact Or.inl rfl | exact Or.inr rfl))) (fun _ _ _ _ _ => pts_nil) (fun _ _ _ _ _ => (pe_ix ix_seq (pv 2) (pe_ix ix_seq (pv 1) (pv 5) (fun _ _ => rfl)) (fun _ _ => rfl))))))
 (pss_cons (ps_set (i := 4) sc_law_names.nd rfl (by first | exact Or.inl rfl | exact Or.inr rfl) (pe_lst pa_nil))
 (pss_cons (ps_for PassesOwn.never rfl (pi_range1 (by rfl) T.m_range (pa_cons pe_int pa_nil)) (pg_name (i := 5) sc_law_names.nd rfl (by first | exact Or.inl rfl | exact Or.inr rfl))
 (pss_cons (ps_set (i := 6) sc_law_names.nd rfl (by first | exact Or.inl rfl | exact Or.inr rfl) (pe_ix ix_seq (pv 1) (pe_op op_addA pe_int (pv 5)) (fun _ _ => rfl)))
 (pss_one (ps_expr (pe_bm PySem.F.plainAttrs_list PySem.F.slot_list_append PySem.F.type_list_append mt_append (pv 4) (pa_cons (pe_op op_addA (pe_slice C8.sl_txt (pv 3) po_none (po_some (pv 6))) (pe_ix ix_seq (pv 2) (pe_ix ix_seq (pv 1) (pe_op op_addA pe_int (pv 5)) (fun _ _ => rfl)) (fun _ _ => rfl))) pa_nil))))))
 (pss_one (ps_ret (pv 4)))))))), ?_⟩
  exact ((sr_seq (sr_asg (er_call (ar_cons (er_var 0) (ar_cons (er_2 rr_add (er_2 rr_add (er_2 rr_mul (er_lst (ar_cons er_int ar_nil)) er_int) (er_2 rr_mul (er_lst (ar_cons er_int ar_nil)) er_int)) (er_2 rr_mul (er_lst (ar_cons er_int ar_nil)) er_int)) ar_nil))) (gr'_name 1))
 (sr_seq (sr_asg er_str (gr'_name 2))
 (sr_seq (sr_asg (Zj.er_m1 Zj.rm_join er_str (er_of_eo (eo_lc (vs := [5]) (ir_rng1 (ar_cons er_int ar_nil)) (grc_name (j := 5) (by decide)) tr_yes (er_2 rr_ix (er_var 2) (er_2 rr_ix (er_var 1) (er_var 5)))))) (gr'_name 3))
 (sr_seq (sr_asgO (eo_lst ar_nil))
 (sr_seq (sr_for (ir_rng1 (ar_cons er_int ar_nil)) (gr'_name 5)
 (sr_seq (sr_asg (er_2 rr_ix (er_var 1) (er_2 rr_add er_int (er_var 5))) (gr'_name 6))
 (sr_app (i := 4) (er_2 rr_add (Zj.er_slS (er_var 3) or_none (or_some (er_var 6))) (er_2 rr_ix (er_var 2) (er_2 rr_ix (er_var 1) (er_2 rr_add er_int (er_var 5))))))))
 (sr_retV 4)))))) : SR K _ (t_law_names))
theorem sc_law_is_integer : FnScope N_law_is_integer ["actual"] (defScope s_law_is_integer) := ⟨rfl, rfl, rfl, by decide +kernel, rfl, by decide +kernel, by decide +kernel⟩
theorem ok_law_is_integer (T : Txt K mg w) : FnOk P w K mg base CX0 1 T.f_law_is_integer T.fd_law_is_integer ["actual"] (spG K 1 (g_law_is_integer)) := by
  refine fnG (m := 0) T.F_law_is_integer sc_law_is_integer rfl rfl (fun cdv A outer s H E hr => ?_)
  have hu := hr.units
  refine ⟨_, (pss_one (ps_ret (pe_and (pe_callB call_isi (by rfl) T.m_isinstance bt_isinstance (pa_cons (pv 0) (pa_cons (pe_bltn (v := .ty "int") (by rfl) T.m_int bt_int rfl) pa_nil))) (pe_one (pe_not (pe_callB call_isi (by rfl) T.m_isinstance bt_isinstance (pa_cons (pv 0) (pa_cons (pe_bltn (v := .ty "bool") (by rfl) T.m_bool bt_bool rfl) pa_nil)))))))), ?_⟩
  exact ((sr_ret (er_and (er_n rc_isi (ar_cons (er_var 0) (ar_cons er_ty ar_nil))) (er_not (er_n rc_isi (ar_cons (er_var 0) (ar_cons er_ty ar_nil)))))) : SR K _ (t_law_is_integer))
theorem sc_law_command : FnScope N_law_command ["drawn", "names", "text", "cell"] (defScope s_law_command) := ⟨rfl, rfl, rfl, by decide +kernel, rfl, by decide +kernel, by decide +kernel⟩
theorem ok_law_command (T : Txt K mg w) : FnOk P w K mg base CX0 1 T.f_law_command T.fd_law_command ["drawn", "names", "text", "cell"] (spG K 4 (g_law_command)) := by
  refine fnG (m := 8) T.F_law_command sc_law_command rfl rfl (fun cdv A outer s H E hr => ?_)
  have hu := hr.units
  refine ⟨_, (pss_cons (ps_set (i := 4) sc_law_command.nd rfl (by first | exact Or.inl rfl | exact Or.inr rfl) (pe_tup (pa_cons pe_str (pa_cons pe_str (pa_cons pe_str (pa_cons pe_str (pa_cons pe_str (pa_cons pe_str (pa_cons pe_str (pa_cons pe_str (pa_cons pe_str (pa_cons pe_str (pa_cons pe_str (pa_cons pe_str (pa_cons pe_str (pa_cons pe_str pa_nil))))))))))))))))
 (pss_cons (ps_set (i := 5) sc_law_command.nd rfl (by first | exact Or.inl rfl | exact Or.inr rfl) (pe_ix ix_seq (pe_op op_catA (pv 4) (pe_tup (pa_cons pe_str pa_nil))) (pe_ix ix_seq (pv 0) pe_int (fun _ _ => rfl)) (fun _ _ => rfl)))
 (pss_cons (ps_set (i := 6) sc_law_command.nd rfl (by first | exact Or.inl rfl | exact Or.inr rfl) (pe_ix ix_seq (pv 1) (pe_ix ix_seq (pv 0) pe_int (fun _ _ => rfl)) (fun _ _ => rfl)))
 (pss_cons (ps_setLc (i := 7) (own := [("k", 11)]) (g := (gName 11)) (tt := tYes) (te := (tOp (rIx K) (tTup (tCons (tC (.int 0)) (tCons (tC (.int 1)) (tCons (tC (.int 2)) (tCons (tC (.int 3)) (tCons (tC (.int 4)) (tCons (tC (.int 5)) (tCons (tC (.int 11)) (tCons (tC (.int 25)) tNil))))))))) (tOp (rIx K) (tVar 0) (tOp _ (tC (.int 3)) (tVar 11))))) rfl sc_law_command.nd rfl rfl (sw_true rfl rfl rfl (by decide +kernel)) (pi_range1 (by rfl) T.m_range (pa_cons pe_int pa_nil)) (blkOk_by (N := N_law_command) (sc := defScope s_law_command) (by decide +kernel)) (fun _ _ _ _ _ => (pg_name (i := 11) sc_law_command.nd rfl (by first | exact Or.inl rfl | exact Or.inr rfl))) (fun _ _ _ _ _ => pts_nil) (fun _ _ _ _ _ => (pe_ix ix_seq (pe_tup (pa_cons pe_int (pa_cons pe_int (pa_cons pe_int (pa_cons pe_int (pa_cons pe_int (pa_cons pe_int (pa_cons pe_int (pa_cons pe_int pa_nil))))))))) (pe_ix ix_seq (pv 0) (pe_op op_addA pe_int (pv 11)) (fun _ _ => rfl)) (fun _ _ => rfl))))
 (pss_cons (ps_set (i := 8) sc_law_command.nd rfl (by first | exact Or.inl rfl | exact Or.inr rfl) (pe_ix ix_seq (pe_tup (pa_cons pe_int (pa_cons pe_int (pa_cons pe_int (pa_cons pe_int (pa_cons pe_int (pa_cons pe_int (pa_cons (pe_op op_mod (pe_callTy call_int1 (by rfl) T.m_int bt_int (pa_cons (pe_callB call_abs (by rfl) T.m_abs bt_abs (pa_cons (pe_callTy call_int1 (by rfl) T.m_int bt_int (pa_cons (pv 3) pa_nil)) pa_nil)) pa_nil)) pe_int) pa_nil)))))))) (pe_ix ix_seq (pv 0) pe_int (fun _ _ => rfl)) (fun _ _ => rfl)))
 (pss_cons (ps_set (i := 9) sc_law_command.nd rfl (by first | exact Or.inl rfl | exact Or.inr rfl) (pe_ix ix_seq (pe_tup (pa_cons pe_int (pa_cons pe_int (pa_cons pe_int (pa_cons pe_int (pa_cons pe_int (pa_cons (pe_op op_mod (pe_callTy call_int1 (by rfl) T.m_int bt_int (pa_cons (pe_callB call_abs (by rfl) T.m_abs bt_abs (pa_cons (pe_callTy call_int1 (by rfl) T.m_int bt_int (pa_cons (pv 3) pa_nil)) pa_nil)) pa_nil)) (pe_op op_pow pe_int pe_int)) pa_nil))))))) (pe_ix ix_seq (pv 0) pe_int (fun _ _ => rfl)) (fun _ _ => rfl)))
 (pss_cons (ps_if (pt_cmpR (op_eqD hu) (pv 5) pe_str (nomark _))
 (pss_cons (ps_set (i := 10) sc_law_command.nd rfl (by first | exact Or.inl rfl | exact Or.inr rfl) (pe_op op_mulA (pe_op op_mod (pe_callTy call_int1 (by rfl) T.m_int bt_int (pa_cons (pe_ix ix_seq (pv 0) pe_int (fun _ _ => rfl)) pa_nil)) pe_int) (pe_op op_addA (pe_ix ix_seq (pv 0) pe_int (fun _ _ => rfl)) pe_int)))
 (pss_one (ps_ret (pe_tup (pa_cons pe_str (pa_cons (pv 6) (pa_cons (pe_callTy call_tuple_of (by rfl) T.m_tuple bt_tuple (pa_cons (pe_slice sl_list (pv 7) po_none (po_some (pv 10))) pa_nil)) (pa_cons (pv 2) pa_nil))))))))
 pss_nil)
 (pss_cons (ps_if ((pw_or (pt_cmpR (op_eqD hu) (pv 5) pe_str (nomark _)) (pw_or1 (pt_cmpR (op_eqD hu) (pv 5) pe_str (nomark _))))).pt
 (pss_one (ps_ret (pe_tup (pa_cons (pv 5) (pa_cons (pv 6) pa_nil)))))
 pss_nil)
 (pss_cons (ps_if ((pw_or (pt_cmpR (op_eqD hu) (pv 5) pe_str (nomark _)) (pw_or (pt_cmpR (op_eqD hu) (pv 5) pe_str (nomark _)) (pw_or1 (pt_cmpR (op_eqD hu) (pv 5) pe_str (nomark _)))))).pt
 (pss_one (ps_ret (pe_tup (pa_cons (pv 5) (pa_cons (pv 8) (pa_cons (pe_ix ix_seq (pv 7) pe_int (fun _ _ => rfl)) pa_nil))))))
 pss_nil)
 (pss_cons (ps_if (pt_cmpR (op_eqD hu) (pv 5) pe_str (nomark _))
 (pss_one (ps_ret (pe_tup (pa_cons pe_str (pa_cons (pe_ix ix_seq (pv 7) pe_int (fun _ _ => rfl)) (pa_cons (pv 9) pa_nil))))))
 pss_nil)
 (pss_cons (ps_if (pt_cmpR (op_eqD hu) (pv 5) pe_str (nomark _))
 (pss_one (ps_ret (pe_tup (pa_cons pe_str (pa_cons (pe_ix ix_seq (pv 7) pe_int (fun _ _ => rfl)) pa_nil)))))
 pss_nil)
 (pss_one (ps_ret (pe_tup (pa_cons (pv 5) pa_nil))))))))))))))), ?_⟩
  exact ((sr_seq (sr_asg (er_tup (ar_cons er_str (ar_cons er_str (ar_cons er_str (ar_cons er_str (ar_cons er_str (ar_cons er_str (ar_cons er_str (ar_cons er_str (ar_cons er_str (ar_cons er_str (ar_cons er_str (ar_cons er_str (ar_cons er_str (ar_cons er_str ar_nil))))))))))))))) (gr'_name 4))
 (sr_seq (sr_asg (er_2 rr_ix (er_2 Zm.rr_cat (er_var 4) (er_tup (ar_cons er_str ar_nil))) (er_2 rr_ix (er_var 0) er_int)) (gr'_name 5))
 (sr_seq (sr_asg (er_2 rr_ix (er_var 1) (er_2 rr_ix (er_var 0) er_int)) (gr'_name 6))
 (sr_seq (sr_asg (er_of_eo (eo_lc (vs := [11]) (ir_rng1 (ar_cons er_int ar_nil)) (grc_name (j := 11) (by decide)) tr_yes (er_2 rr_ix (er_tup (ar_cons er_int (ar_cons er_int (ar_cons er_int (ar_cons er_int (ar_cons er_int (ar_cons er_int (ar_cons er_int (ar_cons er_int ar_nil))))))))) (er_2 rr_ix (er_var 0) (er_2 rr_add er_int (er_var 11)))))) (gr'_name 7))
 (sr_seq (sr_asg (er_2 rr_ix (er_tup (ar_cons er_int (ar_cons er_int (ar_cons er_int (ar_cons er_int (ar_cons er_int (ar_cons er_int (ar_cons (er_2 rr_mod (er_n rc_int (ar_cons (er_n rc_abs (ar_cons (er_n rc_int (ar_cons (er_var 3) ar_nil)) ar_nil)) ar_nil)) er_int) ar_nil)))))))) (er_2 rr_ix (er_var 0) er_int)) (gr'_name 8))
 (sr_seq (sr_asg (er_2 rr_ix (er_tup (ar_cons er_int (ar_cons er_int (ar_cons er_int (ar_cons er_int (ar_cons er_int (ar_cons (er_2 rr_mod (er_n rc_int (ar_cons (er_n rc_abs (ar_cons (er_n rc_int (ar_cons (er_var 3) ar_nil)) ar_nil)) ar_nil)) (er_2 rr_pow er_int er_int)) ar_nil))))))) (er_2 rr_ix (er_var 0) er_int)) (gr'_name 9))
 (sr_seq (sr_if (tr_test (er_2 rr_eq (er_var 5) er_str))
 (sr_seq (sr_asg (er_2 rr_mul (er_2 rr_mod (er_n rc_int (ar_cons (er_2 rr_ix (er_var 0) er_int) ar_nil)) er_int) (er_2 rr_add (er_2 rr_ix (er_var 0) er_int) er_int)) (gr'_name 10))
 (sr_ret (er_tup (ar_cons er_str (ar_cons (er_var 6) (ar_cons (er_n rc_tuple (ar_cons (er_sl (er_var 7) or_none (or_some (er_var 10))) ar_nil)) (ar_cons (er_var 2) ar_nil)))))))
 sr_next)
 (sr_seq (sr_if (tr_or (tr_test (er_2 rr_eq (er_var 5) er_str)) (tr_test (er_2 rr_eq (er_var 5) er_str)))
 (sr_ret (er_tup (ar_cons (er_var 5) (ar_cons (er_var 6) ar_nil))))
 sr_next)
 (sr_seq (sr_if (tr_or (tr_test (er_2 rr_eq (er_var 5) er_str)) (tr_or (tr_test (er_2 rr_eq (er_var 5) er_str)) (tr_test (er_2 rr_eq (er_var 5) er_str))))
 (sr_ret (er_tup (ar_cons (er_var 5) (ar_cons (er_var 8) (ar_cons (er_2 rr_ix (er_var 7) er_int) ar_nil)))))
 sr_next)
 (sr_seq (sr_if (tr_test (er_2 rr_eq (er_var 5) er_str))
 (sr_ret (er_tup (ar_cons er_str (ar_cons (er_2 rr_ix (er_var 7) er_int) (ar_cons (er_var 9) ar_nil)))))
 sr_next)
 (sr_seq (sr_if (tr_test (er_2 rr_eq (er_var 5) er_str))
 (sr_ret (er_tup (ar_cons er_str (ar_cons (er_2 rr_ix (er_var 7) er_int) ar_nil))))
 sr_next)
 (sr_ret (er_tup (ar_cons (er_var 5) ar_nil)))))))))))))) : SR K _ (t_law_command))
theorem sc_law_line : FnScope N_law_line ["command"] (defScope s_law_line) := ⟨rfl, rfl, rfl, by decide +kernel, rfl, by decide +kernel, by decide +kernel⟩
theorem ok_law_line (T : Txt K mg w) : FnOk P w K mg base CX0 1 T.f_law_line T.fd_law_line ["command"] (spG K 1 (g_law_line)) := by
  refine fnG (m := 2) T.F_law_line sc_law_line rfl rfl (fun cdv A outer s H E hr => ?_)
  have hu := hr.units
  refine ⟨_, (pss_cons (ps_if (pt_cmpR (op_neD hu) (pe_ix ix_seq (pv 0) pe_int (fun _ _ => rfl)) pe_str (nomark _))
 (pss_one (ps_ret (pe_m1 PySem.F.slot_str_join PySem.F.type_str_join mt_join pe_str (pe_lc (own := [("part", 1)]) (g := (gName 1)) (tt := tYes) (te := (tCB Zrd.rStrA (tCons (tVar 1) tNil))) rfl sc_law_line.nd (pi_seq (pv 0)) (blkOk_by (N := N_law_line) (sc := defScope s_law_line) (by decide +kernel)) (fun _ _ _ _ _ => (pg_name (i := 1) sc_law_line.nd rfl (by first | exact Or.inl rfl | exact Or.inr rfl))) (fun _ _ _ _ _ => pts_nil) (fun _ _ _ _ _ => (pe_callTy Zrd.call_strA (by rfl) T.m_str bt_str (pa_cons (pv 1) pa_nil)))))))
 pss_nil)
 (pss_cons (ps_if (pt_cmpR (op_eqD hu) (pe_callB call_lenA (by rfl) T.m_len bt_len (pa_cons (pe_ix ix_seq (pv 0) pe_int (fun _ _ => rfl)) pa_nil)) pe_int (nomark _))
 (pss_one (ps_ret (pe_op op_addA (pe_op op_addA (pe_op op_addA pe_str (pe_ix ix_seq (pv 0) pe_int (fun _ _ => rfl))) pe_str) (pe_ix ix_seq (pv 0) pe_int (fun _ _ => rfl)))))
 pss_nil)
 (pss_one (ps_ret (pe_op op_addA (pe_op op_addA (pe_op op_addA (pe_op op_addA (pe_op op_addA pe_str (pe_ix ix_seq (pv 0) pe_int (fun _ _ => rfl))) pe_str) (pe_m1 PySem.F.slot_str_join PySem.F.type_str_join mt_join pe_str (pe_lc (own := [("seat", 2)]) (g := (gName 2)) (tt := tYes) (te := (tCB Zrd.rStrA (tCons (tVar 2) tNil))) rfl sc_law_line.nd (pi_seq (pe_ix ix_seq (pv 0) pe_int (fun _ _ => rfl))) (blkOk_by (N := N_law_line) (sc := defScope s_law_line) (by decide +kernel)) (fun _ _ _ _ _ => (pg_name (i := 2) sc_law_line.nd rfl (by first | exact Or.inl rfl | exact Or.inr rfl))) (fun _ _ _ _ _ => pts_nil) (fun _ _ _ _ _ => (pe_callTy Zrd.call_strA (by rfl) T.m_str bt_str (pa_cons (pv 2) pa_nil)))))) pe_str) (pe_ix ix_seq (pv 0) pe_int (fun _ _ => rfl))))))), ?_⟩
  exact ((sr_seq (sr_if (tr_test (er_2 rr_ne (er_2 rr_ix (er_var 0) er_int) er_str))
 (sr_ret (Zj.er_m1 Zj.rm_join er_str (er_of_eo (eo_lc (vs := [1]) (ir_seq (er_var 0)) (grc_name (j := 1) (by decide)) tr_yes (er_n Zrd.rc_strA (ar_cons (er_var 1) ar_nil))))))
 sr_next)
 (sr_seq (sr_if (tr_test (er_2 rr_eq (er_n rc_len (ar_cons (er_2 rr_ix (er_var 0) er_int) ar_nil)) er_int))
 (sr_ret (er_2 rr_add (er_2 rr_add (er_2 rr_add er_str (er_2 rr_ix (er_var 0) er_int)) er_str) (er_2 rr_ix (er_var 0) er_int)))
 sr_next)
 (sr_ret (er_2 rr_add (er_2 rr_add (er_2 rr_add (er_2 rr_add (er_2 rr_add er_str (er_2 rr_ix (er_var 0) er_int)) er_str) (Zj.er_m1 Zj.rm_join er_str (er_of_eo (eo_lc (vs := [2]) (ir_seq (er_2 rr_ix (er_var 0) er_int)) (grc_name (j := 2) (by decide)) tr_yes (er_n Zrd.rc_strA (ar_cons (er_var 2) ar_nil)))))) er_str) (er_2 rr_ix (er_var 0) er_int))))) : SR K _ (t_law_line))
theorem sc_law_integer : FnScope N_law_integer ["text"] (defScope s_law_integer) := ⟨rfl, rfl, rfl, by decide +kernel, rfl, by decide +kernel, by decide +kernel⟩
theorem ok_law_integer (T : Txt K mg w) : FnOk P w K mg base CX0 1 T.f_law_integer T.fd_law_integer ["text"] (spG K 1 (g_law_integer)) := by
  refine fnG (m := 1) T.F_law_integer sc_law_integer rfl rfl (fun cdv A outer s H E hr => ?_)
  have hu := hr.units
  refine ⟨_, (pss_cons (ps_if ((pw_or (pt_cmpR (op_eqD hu) (pv 0) pe_str (nomark _)) (pw_or1 ((pw_and (pt_cmpR op_gt (pe_callB call_lenA (by rfl) T.m_len bt_len (pa_cons (pv 0) pa_nil)) pe_int (nomark _)) (pw_and1 (pt_cmpR (op_eqD hu) (pe_ix ix_seq (pv 0) pe_int (fun _ _ => rfl)) pe_str (nomark _))))).pt))).pt
 (pss_one (ps_ret pe_non))
 pss_nil)
 (pss_cons (ps_for PassesOwn.never rfl (pi_str (pv 0)) (pg_name (i := 1) sc_law_integer.nd rfl (by first | exact Or.inl rfl | exact Or.inr rfl))
 (pss_one (ps_if (pt_cmpR op_notin_str (pv 1) pe_str (by rfl))
 (pss_one (ps_ret pe_non))
 pss_nil)))
 (pss_one (ps_ret (pe_callTy call_int_str (by rfl) T.m_int bt_int (pa_cons (pv 0) pa_nil)))))), ?_⟩
  exact ((sr_seq (sr_if (tr_or (tr_test (er_2 rr_eq (er_var 0) er_str)) (tr_and (tr_test (er_2 rr_gt (er_n rc_len (ar_cons (er_var 0) ar_nil)) er_int)) (tr_test (er_2 rr_eq (er_2 rr_ix (er_var 0) er_int) er_str))))
 (sr_ret er_non)
 sr_next)
 (sr_seq (sr_for (Zra.ir_str (er_var 0)) (gr'_name 1)
 (sr_if (tr_test (er_2 Zj.rr_ninT (er_var 1) er_str))
 (sr_ret er_non)
 sr_next))
 (sr_ret (er_n Zj.rc_intS (ar_cons (er_var 0) ar_nil))))) : SR K _ (t_law_integer))
theorem sc_law_is_name : FnScope N_law_is_name ["text"] (defScope s_law_is_name) := ⟨rfl, rfl, rfl, by decide +kernel, rfl, by decide +kernel, by decide +kernel⟩
theorem ok_law_is_name (T : Txt K mg w) : FnOk P w K mg base CX0 1 T.f_law_is_name T.fd_law_is_name ["text"] (spG K 1 (g_law_is_name)) := by
  refine fnG (m := 1) T.F_law_is_name sc_law_is_name rfl rfl (fun cdv A outer s H E hr => ?_)
  have hu := hr.units
  refine ⟨_, (pss_cons (ps_if ((pw_or (pt_cmpR op_lt (pe_callB call_lenA (by rfl) T.m_len bt_len (pa_cons (pv 0) pa_nil)) pe_int (nomark _)) (pw_or1 (pt_cmpR op_gt (pe_callB call_lenA (by rfl) T.m_len bt_len (pa_cons (pv 0) pa_nil)) pe_int (nomark _))))).pt
 (pss_one (ps_ret pe_bl))
 pss_nil)
 (pss_cons (ps_for PassesOwn.never rfl (pi_str (pv 0)) (pg_name (i := 1) sc_law_is_name.nd rfl (by first | exact Or.inl rfl | exact Or.inr rfl))
 (pss_one (ps_if (pt_cmpR op_notin_str (pv 1) pe_str (by rfl))
 (pss_one (ps_ret pe_bl))
 pss_nil)))
 (pss_one (ps_ret pe_bl)))), ?_⟩
  exact ((sr_seq (sr_if (tr_or (tr_test (er_2 rr_lt (er_n rc_len (ar_cons (er_var 0) ar_nil)) er_int)) (tr_test (er_2 rr_gt (er_n rc_len (ar_cons (er_var 0) ar_nil)) er_int)))
 (sr_ret er_bl)
 sr_next)
 (sr_seq (sr_for (Zra.ir_str (er_var 0)) (gr'_name 1)
 (sr_if (tr_test (er_2 Zj.rr_ninT (er_var 1) er_str))
 (sr_ret er_bl)
 sr_next))
 (sr_ret er_bl))) : SR K _ (t_law_is_name))
theorem sc_law_put_reading : FnScope N_law_put_reading ["rest"] (defScope s_law_put_reading) := ⟨rfl, rfl, rfl, by decide +kernel, rfl, by decide +kernel, by decide +kernel⟩
theorem ok_law_put_reading (T : Txt K mg w) : FnOk P w K mg base CX0 2 T.f_law_put_reading T.fd_law_put_reading ["rest"] (spG K 1 (g_law_put_reading)) := by
  have G_law_is_name := ok_law_is_name (P := P) (w := w) (base := base) T
  have G_law_integer := ok_law_integer (P := P) (w := w) (base := base) T
  refine fnG (m := 4) T.F_law_put_reading sc_law_put_reading rfl rfl (fun cdv A outer s H E hr => ?_)
  have hu := hr.units
  refine ⟨_, (pss_cons (ps_set (i := 1) sc_law_put_reading.nd rfl (by first | exact Or.inl rfl | exact Or.inr rfl) (pe_m1 PySem.F.slot_str_find PySem.F.type_str_find mt_find (pv 0) pe_str))
 (pss_cons (ps_if (pt_cmpR op_lt (pv 1) pe_int (nomark _))
 (pss_one (ps_ret pe_non))
 pss_nil)
 (pss_cons (ps_set (i := 2) sc_law_put_reading.nd rfl (by first | exact Or.inl rfl | exact Or.inr rfl) (pe_m1 PySem.F.slot_str_split PySem.F.type_str_split mt_split (pe_slice C8.sl_txt (pv 0) po_none (po_some (pv 1))) pe_str))
 (pss_cons (ps_if ((pw_or (pt_not (pt_truth (pe_call G_law_is_name (hr.mono (by decide)) (by rfl) T.g_law_is_name T.F_law_is_name.kp T.b_law_is_name .nil pass0 (pa_cons (pe_ix ix_seq (pv 2) pe_int (fun _ _ => rfl)) pa_nil)) (fun _ => rfl))) (pw_or1 (pt_cmpR op_gt (pe_callB call_lenA (by rfl) T.m_len bt_len (pa_cons (pv 2) pa_nil)) pe_int (nomark _))))).pt
 (pss_one (ps_ret pe_non))
 pss_nil)
 (pss_cons (ps_if (pt_cmpR (op_eqD hu) (pe_callB call_lenA (by rfl) T.m_len bt_len (pa_cons (pv 2) pa_nil)) pe_int (nomark _))
 (pss_one (ps_ret (pe_tup (pa_cons pe_str (pa_cons (pe_ix ix_seq (pv 2) pe_int (fun _ _ => rfl)) (pa_cons (pe_tup pa_nil) (pa_cons (pe_slice C8.sl_txt (pv 0) (po_some (pe_op op_addA (pv 1) pe_int)) po_none) pa_nil)))))))
 pss_nil)
 (pss_cons (ps_setLc (i := 3) (own := [("word", 4)]) (g := (gName 4)) (tt := tYes) (te := (tCall (spG K 1 (g_law_integer)) [] E0 (tCons (tVar 4) tNil))) rfl sc_law_put_reading.nd rfl rfl (sw_true rfl rfl rfl (by decide +kernel)) (pi_seq (pe_m1 PySem.F.slot_str_split PySem.F.type_str_split mt_split (pe_ix ix_seq (pv 2) pe_int (fun _ _ => rfl)) pe_str)) (blkOk_by (N := N_law_put_reading) (sc := defScope s_law_put_reading) (by decide +kernel)) (fun _ _ _ _ _ => (pg_name (i := 4) sc_law_put_reading.nd rfl (by first | exact Or.inl rfl | exact Or.inr rfl))) (fun _ _ _ _ _ => pts_nil) (fun _ _ _ _ _ => (pe_call G_law_integer (hr.mono (by decide)) (by rfl) T.g_law_integer T.F_law_integer.kp T.b_law_integer .nil pass0 (pa_cons (pv 4) pa_nil))))
 (pss_cons (ps_if (pt_cmpR op_in_seq pe_non (pv 3) (by rfl))
 (pss_one (ps_ret pe_non))
 pss_nil)
 (pss_one (ps_ret (pe_tup (pa_cons pe_str (pa_cons (pe_ix ix_seq (pv 2) pe_int (fun _ _ => rfl)) (pa_cons (pe_callTy call_tuple_of (by rfl) T.m_tuple bt_tuple (pa_cons (pv 3) pa_nil)) (pa_cons (pe_slice C8.sl_txt (pv 0) (po_some (pe_op op_addA (pv 1) pe_int)) po_none) pa_nil)))))))))))))), ?_⟩
  exact ((sr_seq (sr_asg (Zj.er_m1 Zj.rm_find (er_var 0) er_str) (gr'_name 1))
 (sr_seq (sr_if (tr_test (er_2 rr_lt (er_var 1) er_int))
 (sr_ret er_non)
 sr_next)
 (sr_seq (sr_asg (Zj.er_m1 Zj.rm_split (Zj.er_slS (er_var 0) or_none (or_some (er_var 1))) er_str) (gr'_name 2))
 (sr_seq (sr_if (tr_or (tr_not (tr_tru (er_call (ar_cons (er_2 rr_ix (er_var 2) er_int) ar_nil)))) (tr_test (er_2 rr_gt (er_n rc_len (ar_cons (er_var 2) ar_nil)) er_int)))
 (sr_ret er_non)
 sr_next)
 (sr_seq (sr_if (tr_test (er_2 rr_eq (er_n rc_len (ar_cons (er_var 2) ar_nil)) er_int))
 (sr_ret (er_tup (ar_cons er_str (ar_cons (er_2 rr_ix (er_var 2) er_int) (ar_cons (er_tup ar_nil) (ar_cons (Zj.er_slS (er_var 0) (or_some (er_2 rr_add (er_var 1) er_int)) or_none) ar_nil))))))
 sr_next)
 (sr_seq (sr_asg (er_of_eo (eo_lc (vs := [4]) (ir_seq (Zj.er_m1 Zj.rm_split (er_2 rr_ix (er_var 2) er_int) er_str)) (grc_name (j := 4) (by decide)) tr_yes (er_call (ar_cons (er_var 4) ar_nil)))) (gr'_name 3))
 (sr_seq (sr_if (tr_test (er_2 rr_in er_non (er_var 3)))
 (sr_ret er_non)
 sr_next)
 (sr_ret (er_tup (ar_cons er_str (ar_cons (er_2 rr_ix (er_var 2) er_int) (ar_cons (er_n rc_tuple (ar_cons (er_var 3) ar_nil)) (ar_cons (Zj.er_slS (er_var 0) (or_some (er_2 rr_add (er_var 1) er_int)) or_none) ar_nil))))))))))))) : SR K _ (t_law_put_reading))
theorem sc_law_reading : FnScope N_law_reading ["line"] (defScope s_law_reading) := ⟨rfl, rfl, rfl, by decide +kernel, rfl, by decide +kernel, by decide +kernel⟩
theorem ok_law_reading (T : Txt K mg w) : FnOk P w K mg base CX0 3 T.f_law_reading T.fd_law_reading ["line"] (spG K 1 (g_law_reading)) := by
  have G_law_put_reading := ok_law_put_reading (P := P) (w := w) (base := base) T
  have G_law_is_name := ok_law_is_name (P := P) (w := w) (base := base) T
  have G_law_integer := ok_law_integer (P := P) (w := w) (base := base) T
  refine fnG (m := 4) T.F_law_reading sc_law_reading rfl rfl (fun cdv A outer s H E hr => ?_)
  have hu := hr.units
  refine ⟨_, (pss_cons (ps_if (pt_cmpR op_in_str pe_str (pv 0) (by rfl))
 (pss_one (ps_ret pe_non))
 pss_nil)
 (pss_cons (ps_if (pt_cmpR (op_eqD hu) (pe_slice C8.sl_txt (pv 0) po_none (po_some pe_int)) pe_str (nomark _))
 (pss_one (ps_ret (pe_call G_law_put_reading (hr.mono (by decide)) (by rfl) T.g_law_put_reading T.F_law_put_reading.kp T.b_law_put_reading .nil pass0 (pa_cons (pe_slice C8.sl_txt (pv 0) (po_some pe_int) po_none) pa_nil))))
 pss_nil)
 (pss_cons (ps_set (i := 1) sc_law_reading.nd rfl (by first | exact Or.inl rfl | exact Or.inr rfl) (pe_m1 PySem.F.slot_str_split PySem.F.type_str_split mt_split (pv 0) pe_str))
 (pss_cons (ps_set (i := 2) sc_law_reading.nd rfl (by first | exact Or.inl rfl | exact Or.inr rfl) (pe_callB call_lenA (by rfl) T.m_len bt_len (pa_cons (pv 1) pa_nil)))
 (pss_cons (ps_if ((pw_and (pt_cmpR op_in_seq (pe_ix ix_seq (pv 1) pe_int (fun _ _ => rfl)) (pe_tup (pa_cons pe_str (pa_cons pe_str (pa_cons pe_str (pa_cons pe_str pa_nil))))) (by rfl)) (pw_and1 (pt_cmpR (op_eqD hu) (pv 2) pe_int (nomark _))))).pt
 (pss_one (ps_ret (pe_tup (pa_cons (pe_ix ix_seq (pv 1) pe_int (fun _ _ => rfl)) pa_nil))))
 pss_nil)
 (pss_cons (ps_if ((pw_and (pt_cmpR op_in_seq (pe_ix ix_seq (pv 1) pe_int (fun _ _ => rfl)) (pe_tup (pa_cons pe_str (pa_cons pe_str pa_nil))) (by rfl)) (pw_and (pt_cmpR (op_eqD hu) (pv 2) pe_int (nomark _)) (pw_and1 (pt_truth (pe_call G_law_is_name (hr.mono (by decide)) (by rfl) T.g_law_is_name T.F_law_is_name.kp T.b_law_is_name .nil pass0 (pa_cons (pe_ix ix_seq (pv 1) pe_int (fun _ _ => rfl)) pa_nil)) (fun _ => rfl)))))).pt
 (pss_one (ps_ret (pe_tup (pa_cons (pe_ix ix_seq (pv 1) pe_int (fun _ _ => rfl)) (pa_cons (pe_ix ix_seq (pv 1) pe_int (fun _ _ => rfl)) pa_nil)))))
 pss_nil)
 (pss_cons (ps_setLc (i := 3) (own := [("word", 4)]) (g := (gName 4)) (tt := tYes) (te := (tCall (spG K 1 (g_law_integer)) [] E0 (tCons (tVar 4) tNil))) rfl sc_law_reading.nd rfl rfl (sw_true rfl rfl rfl (by decide +kernel)) (pi_seq (pe_slice sl_list (pv 1) (po_some pe_int) po_none)) (blkOk_by (N := N_law_reading) (sc := defScope s_law_reading) (by decide +kernel)) (fun _ _ _ _ _ => (pg_name (i := 4) sc_law_reading.nd rfl (by first | exact Or.inl rfl | exact Or.inr rfl))) (fun _ _ _ _ _ => pts_nil) (fun _ _ _ _ _ => (pe_call G_law_integer (hr.mono (by decide)) (by rfl) T.g_law_integer T.F_law_integer.kp T.b_law_integer .nil pass0 (pa_cons (pv 4) pa_nil))))
 (pss_cons (ps_if (pt_cmpR op_in_seq pe_non (pv 3) (by rfl))
 (pss_one (ps_ret pe_non))
 pss_nil)
 (pss_cons (ps_if ((pw_or ((pw_and (pt_cmpR op_in_seq (pe_ix ix_seq (pv 1) pe_int (fun _ _ => rfl)) (pe_tup (pa_cons pe_str (pa_cons pe_str (pa_cons pe_str (pa_cons pe_str pa_nil))))) (by rfl)) (pw_and1 (pt_cmpR (op_eqD hu) (pv 2) pe_int (nomark _))))).pt (pw_or1 ((pw_and (pt_cmpR (op_eqD hu) (pe_ix ix_seq (pv 1) pe_int (fun _ _ => rfl)) pe_str (nomark _)) (pw_and1 (pt_cmpR (op_eqD hu) (pv 2) pe_int (nomark _))))).pt))).pt
 (pss_one (ps_ret (pe_callTy call_tuple_of (by rfl) T.m_tuple bt_tuple (pa_cons (pe_op op_addA (pe_lst (pa_cons (pe_ix ix_seq (pv 1) pe_int (fun _ _ => rfl)) pa_nil)) (pv 3)) pa_nil))))
 pss_nil)
 (pss_one (ps_ret pe_non))))))))))), ?_⟩
  exact ((sr_seq (sr_if (tr_test (er_2 Zj.rr_inT er_str (er_var 0)))
 (sr_ret er_non)
 sr_next)
 (sr_seq (sr_if (tr_test (er_2 rr_eq (Zj.er_slS (er_var 0) or_none (or_some er_int)) er_str))
 (sr_ret (er_call (ar_cons (Zj.er_slS (er_var 0) (or_some er_int) or_none) ar_nil)))
 sr_next)
 (sr_seq (sr_asg (Zj.er_m1 Zj.rm_split (er_var 0) er_str) (gr'_name 1))
 (sr_seq (sr_asg (er_n rc_len (ar_cons (er_var 1) ar_nil)) (gr'_name 2))
 (sr_seq (sr_if (tr_and (tr_test (er_2 rr_in (er_2 rr_ix (er_var 1) er_int) (er_tup (ar_cons er_str (ar_cons er_str (ar_cons er_str (ar_cons er_str ar_nil))))))) (tr_test (er_2 rr_eq (er_var 2) er_int)))
 (sr_ret (er_tup (ar_cons (er_2 rr_ix (er_var 1) er_int) ar_nil)))
 sr_next)
 (sr_seq (sr_if (tr_and (tr_test (er_2 rr_in (er_2 rr_ix (er_var 1) er_int) (er_tup (ar_cons er_str (ar_cons er_str ar_nil))))) (tr_and (tr_test (er_2 rr_eq (er_var 2) er_int)) (tr_tru (er_call (ar_cons (er_2 rr_ix (er_var 1) er_int) ar_nil)))))
 (sr_ret (er_tup (ar_cons (er_2 rr_ix (er_var 1) er_int) (ar_cons (er_2 rr_ix (er_var 1) er_int) ar_nil))))
 sr_next)
 (sr_seq (sr_asg (er_of_eo (eo_lc (vs := [4]) (ir_seq (er_sl (er_var 1) (or_some er_int) or_none)) (grc_name (j := 4) (by decide)) tr_yes (er_call (ar_cons (er_var 4) ar_nil)))) (gr'_name 3))
 (sr_seq (sr_if (tr_test (er_2 rr_in er_non (er_var 3)))
 (sr_ret er_non)
 sr_next)
 (sr_seq (sr_if (tr_or (tr_and (tr_test (er_2 rr_in (er_2 rr_ix (er_var 1) er_int) (er_tup (ar_cons er_str (ar_cons er_str (ar_cons er_str (ar_cons er_str ar_nil))))))) (tr_test (er_2 rr_eq (er_var 2) er_int))) (tr_and (tr_test (er_2 rr_eq (er_2 rr_ix (er_var 1) er_int) er_str)) (tr_test (er_2 rr_eq (er_var 2) er_int))))
 (sr_ret (er_n rc_tuple (ar_cons (er_2 rr_add (er_lst (ar_cons (er_2 rr_ix (er_var 1) er_int) ar_nil)) (er_var 3)) ar_nil)))
 sr_next)
 (sr_ret er_non)))))))))) : SR K _ (t_law_reading))
theorem sc_law_odd_part : FnScope N_law_odd_part ["number"] (defScope s_law_odd_part) := ⟨rfl, rfl, rfl, by decide +kernel, rfl, by decide +kernel, by decide +kernel⟩
theorem ok_law_odd_part (T : Txt K mg w) : FnOk P w K mg base CX0 1 T.f_law_odd_part T.fd_law_odd_part ["number"] (spG K 1 (g_law_odd_part)) := by
  refine fnG (m := 1) T.F_law_odd_part sc_law_odd_part rfl rfl (fun cdv A outer s H E hr => ?_)
  have hu := hr.units
  refine ⟨_, (pss_cons (ps_set (i := 1) sc_law_odd_part.nd rfl (by first | exact Or.inl rfl | exact Or.inr rfl) (pe_lst (pa_cons pe_str (pa_cons pe_str (pa_cons pe_str (pa_cons pe_str (pa_cons pe_str (pa_cons pe_str (pa_cons pe_str (pa_cons pe_str (pa_cons pe_str (pa_cons pe_str (pa_cons pe_str (pa_cons pe_str (pa_cons pe_str (pa_cons pe_str (pa_cons pe_str (pa_cons pe_str pa_nil))))))))))))))))))
 (pss_cons (ps_set (i := 1) sc_law_odd_part.nd rfl (by first | exact Or.inl rfl | exact Or.inr rfl) (pe_op op_addA (pv 1) (pe_lst (pa_cons pe_str (pa_cons pe_str (pa_cons pe_str (pa_cons pe_str pa_nil)))))))
 (pss_one (ps_ret (pe_ix ix_seq (pv 1) (pe_op op_mod (pe_callTy call_int1 (by rfl) T.m_int bt_int (pa_cons (pv 0) pa_nil)) (pe_callB call_lenA (by rfl) T.m_len bt_len (pa_cons (pv 1) pa_nil))) (fun _ _ => rfl)))))), ?_⟩
  exact ((sr_seq (sr_asg (er_lst (ar_cons er_str (ar_cons er_str (ar_cons er_str (ar_cons er_str (ar_cons er_str (ar_cons er_str (ar_cons er_str (ar_cons er_str (ar_cons er_str (ar_cons er_str (ar_cons er_str (ar_cons er_str (ar_cons er_str (ar_cons er_str (ar_cons er_str (ar_cons er_str ar_nil))))))))))))))))) (gr'_name 1))
 (sr_seq (sr_asg (er_2 rr_add (er_var 1) (er_lst (ar_cons er_str (ar_cons er_str (ar_cons er_str (ar_cons er_str ar_nil)))))) (gr'_name 1))
 (sr_ret (er_2 rr_ix (er_var 1) (er_2 rr_mod (er_n rc_int (ar_cons (er_var 0) ar_nil)) (er_n rc_len (ar_cons (er_var 1) ar_nil))))))) : SR K _ (t_law_odd_part))
theorem sc_law_odd_line : FnScope N_law_odd_line ["number"] (defScope s_law_odd_line) := ⟨rfl, rfl, rfl, by decide +kernel, rfl, by decide +kernel, by decide +kernel⟩
theorem ok_law_odd_line (T : Txt K mg w) : FnOk P w K mg base CX0 1 T.f_law_odd_line T.fd_law_odd_line ["number"] (spG K 1 (g_law_odd_line)) := by
  refine fnG (m := 1) T.F_law_odd_line sc_law_odd_line rfl rfl (fun cdv A outer s H E hr => ?_)
  have hu := hr.units
  refine ⟨_, (pss_cons (ps_set (i := 1) sc_law_odd_line.nd rfl (by first | exact Or.inl rfl | exact Or.inr rfl) (pe_lst (pa_cons pe_str (pa_cons pe_str (pa_cons pe_str (pa_cons pe_str (pa_cons pe_str (pa_cons pe_str (pa_cons pe_str (pa_cons pe_str (pa_cons pe_str (pa_cons pe_str (pa_cons pe_str pa_nil)))))))))))))
 (pss_cons (ps_set (i := 1) sc_law_odd_line.nd rfl (by first | exact Or.inl rfl | exact Or.inr rfl) (pe_op op_addA (pv 1) (pe_lst (pa_cons pe_str (pa_cons pe_str (pa_cons pe_str (pa_cons pe_str (pa_cons pe_str (pa_cons pe_str (pa_cons pe_str (pa_cons pe_str pa_nil)))))))))))
 (pss_cons (ps_set (i := 1) sc_law_odd_line.nd rfl (by first | exact Or.inl rfl | exact Or.inr rfl) (pe_op op_addA (pv 1) (pe_lst (pa_cons pe_str (pa_cons pe_str (pa_cons pe_str (pa_cons pe_str (pa_cons pe_str (pa_cons pe_str (pa_cons pe_str (pa_cons pe_str (pa_cons pe_str pa_nil))))))))))))
 (pss_cons (ps_set (i := 1) sc_law_odd_line.nd rfl (by first | exact Or.inl rfl | exact Or.inr rfl) (pe_op op_addA (pv 1) (pe_lst (pa_cons pe_str (pa_cons pe_str (pa_cons pe_str (pa_cons pe_str (pa_cons pe_str (pa_cons pe_str (pa_cons pe_str (pa_cons pe_str (pa_cons pe_str pa_nil))))))))))))
 (pss_cons (ps_set (i := 1) sc_law_odd_line.nd rfl (by first | exact Or.inl rfl | exact Or.inr rfl) (pe_op op_addA (pv 1) (pe_lst (pa_cons pe_str (pa_cons pe_str (pa_cons pe_str (pa_cons pe_str (pa_cons pe_str (pa_cons pe_str (pa_cons pe_str (pa_cons pe_str (pa_cons pe_str pa_nil))))))))))))
 (pss_cons (ps_set (i := 1) sc_law_odd_line.nd rfl (by first | exact Or.inl rfl | exact Or.inr rfl) (pe_op op_addA (pv 1) (pe_lst (pa_cons pe_str (pa_cons pe_str (pa_cons pe_str (pa_cons pe_str (pa_cons pe_str (pa_cons pe_str (pa_cons pe_str (pa_cons pe_str (pa_cons pe_str pa_nil))))))))))))
 (pss_one (ps_ret (pe_ix ix_seq (pv 1) (pe_op op_mod (pe_callTy call_int1 (by rfl) T.m_int bt_int (pa_cons (pv 0) pa_nil)) (pe_callB call_lenA (by rfl) T.m_len bt_len (pa_cons (pv 1) pa_nil))) (fun _ _ => rfl)))))))))), ?_⟩
  exact ((sr_seq (sr_asg (er_lst (ar_cons er_str (ar_cons er_str (ar_cons er_str (ar_cons er_str (ar_cons er_str (ar_cons er_str (ar_cons er_str (ar_cons er_str (ar_cons er_str (ar_cons er_str (ar_cons er_str ar_nil)))))))))))) (gr'_name 1))
 (sr_seq (sr_asg (er_2 rr_add (er_var 1) (er_lst (ar_cons er_str (ar_cons er_str (ar_cons er_str (ar_cons er_str (ar_cons er_str (ar_cons er_str (ar_cons er_str (ar_cons er_str ar_nil)))))))))) (gr'_name 1))
 (sr_seq (sr_asg (er_2 rr_add (er_var 1) (er_lst (ar_cons er_str (ar_cons er_str (ar_cons er_str (ar_cons er_str (ar_cons er_str (ar_cons er_str (ar_cons er_str (ar_cons er_str (ar_cons er_str ar_nil))))))))))) (gr'_name 1))
 (sr_seq (sr_asg (er_2 rr_add (er_var 1) (er_lst (ar_cons er_str (ar_cons er_str (ar_cons er_str (ar_cons er_str (ar_cons er_str (ar_cons er_str (ar_cons er_str (ar_cons er_str (ar_cons er_str ar_nil))))))))))) (gr'_name 1))
 (sr_seq (sr_asg (er_2 rr_add (er_var 1) (er_lst (ar_cons er_str (ar_cons er_str (ar_cons er_str (ar_cons er_str (ar_cons er_str (ar_cons er_str (ar_cons er_str (ar_cons er_str (ar_cons er_str ar_nil))))))))))) (gr'_name 1))
 (sr_seq (sr_asg (er_2 rr_add (er_var 1) (er_lst (ar_cons er_str (ar_cons er_str (ar_cons er_str (ar_cons er_str (ar_cons er_str (ar_cons er_str (ar_cons er_str (ar_cons er_str (ar_cons er_str ar_nil))))))))))) (gr'_name 1))
 (sr_ret (er_2 rr_ix (er_var 1) (er_2 rr_mod (er_n rc_int (ar_cons (er_var 0) ar_nil)) (er_n rc_len (ar_cons (er_var 1) ar_nil))))))))))) : SR K _ (t_law_odd_line))
theorem sc_law_odd_seats : FnScope N_law_odd_seats ["number", "odd"] (defScope s_law_odd_seats) := ⟨rfl, rfl, rfl, by decide +kernel, rfl, by decide +kernel, by decide +kernel⟩
theorem ok_law_odd_seats (T : Txt K mg w) : FnOk P w K mg base CX0 1 T.f_law_odd_seats T.fd_law_odd_seats ["number", "odd"] (spG K 2 (g_law_odd_seats)) := by
  refine fnG (m := 1) T.F_law_odd_seats sc_law_odd_seats rfl rfl (fun cdv A outer s H E hr => ?_)
  have hu := hr.units
  refine ⟨_, (pss_cons (ps_set (i := 2) sc_law_odd_seats.nd rfl (by first | exact Or.inl rfl | exact Or.inr rfl) (pe_lst (pa_cons pe_str (pa_cons pe_str (pa_cons pe_str (pa_cons pe_str (pa_cons pe_str (pa_cons pe_str (pa_cons pe_str (pa_cons pe_str (pa_cons pe_str (pa_cons pe_str (pa_cons pe_str (pa_cons pe_str (pa_cons pe_str (pa_cons pe_str pa_nil))))))))))))))))
 (pss_one (ps_ret (pe_ix ix_seq (pe_op op_addA (pv 2) (pe_lst (pa_cons (pv 1) pa_nil))) (pe_op op_mod (pe_callTy call_int1 (by rfl) T.m_int bt_int (pa_cons (pv 0) pa_nil)) pe_int) (fun _ _ => rfl))))), ?_⟩
  exact ((sr_seq (sr_asg (er_lst (ar_cons er_str (ar_cons er_str (ar_cons er_str (ar_cons er_str (ar_cons er_str (ar_cons er_str (ar_cons er_str (ar_cons er_str (ar_cons er_str (ar_cons er_str (ar_cons er_str (ar_cons er_str (ar_cons er_str (ar_cons er_str ar_nil))))))))))))))) (gr'_name 2))
 (sr_ret (er_2 rr_ix (er_2 rr_add (er_var 2) (er_lst (ar_cons (er_var 1) ar_nil))) (er_2 rr_mod (er_n rc_int (ar_cons (er_var 0) ar_nil)) er_int)))) : SR K _ (t_law_odd_seats))
theorem sc_law_replaced : FnScope N_law_replaced ["command", "line", "odd", "which"] (defScope s_law_replaced) := ⟨rfl, rfl, rfl, by decide +kernel, rfl, by decide +kernel, by decide +kernel⟩
theorem ok_law_replaced (T : Txt K mg w) : FnOk P w K mg base CX0 2 T.f_law_replaced T.fd_law_replaced ["command", "line", "odd", "which"] (spG K 4 (g_law_replaced)) := by
  have G_law_odd_seats := ok_law_odd_seats (P := P) (w := w) (base := base) T
  refine fnG (m := 2) T.F_law_replaced sc_law_replaced rfl rfl (fun cdv A outer s H E hr => ?_)
  have hu := hr.units
  refine ⟨_, (pss_cons (ps_if (pt_cmpR (op_neD hu) (pe_ix ix_seq (pv 0) pe_int (fun _ _ => rfl)) pe_str (nomark _))
 (pss_cons (ps_set (i := 4) sc_law_replaced.nd rfl (by first | exact Or.inl rfl | exact Or.inr rfl) (pe_m1 PySem.F.slot_str_split PySem.F.type_str_split mt_split (pv 1) pe_str))
 (pss_cons (ps_asg (pv 2) (pg_sub (pv 4) (pe_op op_mod (pe_callTy call_int1 (by rfl) T.m_int bt_int (pa_cons (pv 3) pa_nil)) (pe_callB call_lenA (by rfl) T.m_len bt_len (pa_cons (pv 4) pa_nil))) set_list))
 (pss_one (ps_ret (pe_m1 PySem.F.slot_str_join PySem.F.type_str_join mt_join pe_str (pv 4))))))
 pss_nil)
 (pss_cons (ps_set (i := 5) sc_law_replaced.nd rfl (by first | exact Or.inl rfl | exact Or.inr rfl) (pe_op op_addA pe_str (pe_ix ix_seq (pv 0) pe_int (fun _ _ => rfl))))
 (pss_cons (ps_if (pt_cmpR (op_eqD hu) (pe_op op_mod (pe_callTy call_int1 (by rfl) T.m_int bt_int (pa_cons (pv 3) pa_nil)) pe_int) pe_int (nomark _))
 (pss_one (ps_ret (pe_op op_addA (pe_op op_addA pe_str (pv 2)) (pe_slice C8.sl_txt (pv 1) (po_some (pe_callB call_lenA (by rfl) T.m_len bt_len (pa_cons (pv 5) pa_nil))) po_none))))
 pss_nil)
 (pss_cons (ps_if (pt_cmpR (op_eqD hu) (pe_op op_mod (pe_callTy call_int1 (by rfl) T.m_int bt_int (pa_cons (pv 3) pa_nil)) pe_int) pe_int (nomark _))
 (pss_one (ps_ret (pe_op op_addA (pe_op op_addA (pv 5) (pv 2)) (pe_slice C8.sl_txt (pv 1) (po_some (pe_callB call_lenA (by rfl) T.m_len bt_len (pa_cons (pv 5) pa_nil))) po_none))))
 pss_nil)
 (pss_one (ps_ret (pe_op op_addA (pe_op op_addA (pe_op op_addA (pe_op op_addA (pv 5) pe_str) (pe_call G_law_odd_seats (hr.mono (by decide)) (by rfl) T.g_law_odd_seats T.F_law_odd_seats.kp T.b_law_odd_seats .nil pass0 (pa_cons (pe_op op_fdivW (pe_callTy call_int1 (by rfl) T.m_int bt_int (pa_cons (pv 3) pa_nil)) pe_int) (pa_cons (pv 2) pa_nil)))) pe_str) (pe_ix ix_seq (pv 0) pe_int (fun _ _ => rfl))))))))), ?_⟩
  exact ((sr_seq (sr_if (tr_test (er_2 rr_ne (er_2 rr_ix (er_var 0) er_int) er_str))
 (sr_seq (sr_asgO (Zre.eo_split (er_var 1) er_str))
 (sr_seq (sr_setI (i := 4) (er_peekF (er_2 rr_mod (er_n rc_int (ar_cons (er_var 3) ar_nil)) (er_n rc_len (ar_cons (er_var 4) ar_nil)))) (er_var 2))
 (sr_frz [4] (sr_ret (Zj.er_m1 Zj.rm_join er_str (er_var 4))))))
 sr_next)
 (sr_seq (sr_asg (er_2 rr_add er_str (er_2 rr_ix (er_var 0) er_int)) (gr'_name 5))
 (sr_seq (sr_if (tr_test (er_2 rr_eq (er_2 rr_mod (er_n rc_int (ar_cons (er_var 3) ar_nil)) er_int) er_int))
 (sr_ret (er_2 rr_add (er_2 rr_add er_str (er_var 2)) (Zj.er_slS (er_var 1) (or_some (er_n rc_len (ar_cons (er_var 5) ar_nil))) or_none)))
 sr_next)
 (sr_seq (sr_if (tr_test (er_2 rr_eq (er_2 rr_mod (er_n rc_int (ar_cons (er_var 3) ar_nil)) er_int) er_int))
 (sr_ret (er_2 rr_add (er_2 rr_add (er_var 5) (er_var 2)) (Zj.er_slS (er_var 1) (or_some (er_n rc_len (ar_cons (er_var 5) ar_nil))) or_none)))
 sr_next)
 (sr_ret (er_2 rr_add (er_2 rr_add (er_2 rr_add (er_2 rr_add (er_var 5) er_str) (er_call (ar_cons (er_2 rr_fdiv (er_n rc_int (ar_cons (er_var 3) ar_nil)) er_int) (ar_cons (er_var 2) ar_nil)))) er_str) (er_2 rr_ix (er_var 0) er_int))))))) : SR K _ (t_law_replaced))
theorem sc_law_other_line : FnScope N_law_other_line ["command", "line", "cell"] (defScope s_law_other_line) := ⟨rfl, rfl, rfl, by decide +kernel, rfl, by decide +kernel, by decide +kernel⟩
theorem ok_law_other_line (T : Txt K mg w) : FnOk P w K mg base CX0 3 T.f_law_other_line T.fd_law_other_line ["command", "line", "cell"] (spG K 3 (g_law_other_line)) := by
  have G_law_draws := ok_law_draws (P := P) (w := w) (base := base) T
  have G_law_sign := ok_law_sign (P := P) (w := w) (base := base) T
  have G_law_odd_part := ok_law_odd_part (P := P) (w := w) (base := base) T
  have G_law_replaced := ok_law_replaced (P := P) (w := w) (base := base) T
  have G_law_odd_line := ok_law_odd_line (P := P) (w := w) (base := base) T
  refine fnG (m := 4) T.F_law_other_line sc_law_other_line rfl rfl (fun cdv A outer s H E hr => ?_)
  have hu := hr.units
  refine ⟨_, (pss_cons (ps_set (i := 3) sc_law_other_line.nd rfl (by first | exact Or.inl rfl | exact Or.inr rfl) (pe_call G_law_draws (hr.mono (by decide)) (by rfl) T.g_law_draws T.F_law_draws.kp T.b_law_draws .nil pass0 (pa_cons (pv 2) (pa_cons (pe_lst (pa_cons pe_int (pa_cons pe_int (pa_cons pe_int (pa_cons pe_int (pa_cons pe_int (pa_cons pe_int pa_nil))))))) pa_nil))))
 (pss_cons (ps_set (i := 4) sc_law_other_line.nd rfl (by first | exact Or.inl rfl | exact Or.inr rfl) (pe_op op_mod (pe_callTy call_int1 (by rfl) T.m_int bt_int (pa_cons (pe_ix ix_seq (pv 3) pe_int (fun _ _ => rfl)) pa_nil)) (pe_callB call_lenA (by rfl) T.m_len bt_len (pa_cons (pv 1) pa_nil))))
 (pss_cons (ps_if (pt_cmpR op_gt (pe_op op_mod (pe_callTy call_int1 (by rfl) T.m_int bt_int (pa_cons (pe_ix ix_seq (pv 3) pe_int (fun _ _ => rfl)) pa_nil)) pe_int) pe_int (nomark _))
 (pss_one (ps_set (i := 4) sc_law_other_line.nd rfl (by first | exact Or.inl rfl | exact Or.inr rfl) (pe_op op_mod (pe_callTy call_int1 (by rfl) T.m_int bt_int (pa_cons (pe_ix ix_seq (pv 3) pe_int (fun _ _ => rfl)) pa_nil)) (pe_callB (call_minA rfl) (by rfl) T.m_min bt_min (pa_cons pe_int (pa_cons (pe_callB call_lenA (by rfl) T.m_len bt_len (pa_cons (pv 1) pa_nil)) pa_nil))))))
 pss_nil)
 (pss_cons (ps_set (i := 5) sc_law_other_line.nd rfl (by first | exact Or.inl rfl | exact Or.inr rfl) (pe_ix ix_seq pe_str (pe_ix ix_seq (pv 3) pe_int (fun _ _ => rfl)) (fun _ _ => rfl)))
 (pss_cons (ps_if (pt_cmpR (op_eqD hu) (pe_op op_mod (pe_callTy call_int1 (by rfl) T.m_int bt_int (pa_cons (pe_ix ix_seq (pv 3) pe_int (fun _ _ => rfl)) pa_nil)) pe_int) pe_int (nomark _))
 (pss_one (ps_set (i := 5) sc_law_other_line.nd rfl (by first | exact Or.inl rfl | exact Or.inr rfl) (pe_call G_law_sign (hr.mono (by decide)) (by rfl) T.g_law_sign T.F_law_sign.kp T.b_law_sign .nil pass0 (pa_cons (pe_ix ix_seq (pv 3) pe_int (fun _ _ => rfl)) pa_nil))))
 pss_nil)
 (pss_cons (ps_if (pt_cmpR op_lt (pe_ix ix_seq (pv 3) pe_int (fun _ _ => rfl)) pe_int (nomark _))
 (pss_one (ps_ret (pe_call G_law_replaced (hr.mono (by decide)) (by rfl) T.g_law_replaced T.F_law_replaced.kp T.b_law_replaced .nil pass0 (pa_cons (pv 0) (pa_cons (pv 1) (pa_cons (pe_call G_law_odd_part (hr.mono (by decide)) (by rfl) T.g_law_odd_part T.F_law_odd_part.kp T.b_law_odd_part .nil pass0 (pa_cons (pe_ix ix_seq (pv 3) pe_int (fun _ _ => rfl)) pa_nil)) (pa_cons (pe_ix ix_seq (pv 3) pe_int (fun _ _ => rfl)) pa_nil)))))))
 pss_nil)
 (pss_cons (ps_if (pt_cmpR (op_eqD hu) (pe_ix ix_seq (pv 3) pe_int (fun _ _ => rfl)) pe_int (nomark _))
 (pss_one (ps_ret (pe_call G_law_odd_line (hr.mono (by decide)) (by rfl) T.g_law_odd_line T.F_law_odd_line.kp T.b_law_odd_line .nil pass0 (pa_cons (pe_ix ix_seq (pv 3) pe_int (fun _ _ => rfl)) pa_nil))))
 pss_nil)
 (pss_cons (ps_if (pt_cmpR (op_eqD hu) (pe_ix ix_seq (pv 3) pe_int (fun _ _ => rfl)) pe_int (nomark _))
 (pss_one (ps_ret (pe_op op_addA (pv 5) (pv 1))))
 pss_nil)
 (pss_cons (ps_if (pt_cmpR (op_eqD hu) (pe_ix ix_seq (pv 3) pe_int (fun _ _ => rfl)) pe_int (nomark _))
 (pss_one (ps_ret (pe_op op_addA (pv 1) (pv 5))))
 pss_nil)
 (pss_cons (ps_if (pt_cmpR (op_eqD hu) (pe_ix ix_seq (pv 3) pe_int (fun _ _ => rfl)) pe_int (nomark _))
 (pss_one (ps_ret (pe_slice C8.sl_txt (pv 1) po_none (po_some (pv 4)))))
 pss_nil)
 (pss_cons (ps_if (pt_cmpR (op_eqD hu) (pe_ix ix_seq (pv 3) pe_int (fun _ _ => rfl)) pe_int (nomark _))
 (pss_one (ps_ret (pe_op op_addA (pe_op op_addA (pe_slice C8.sl_txt (pv 1) po_none (po_some (pv 4))) (pe_ix ix_seq (pv 1) (pv 4) (fun _ _ => rfl))) (pe_slice C8.sl_txt (pv 1) (po_some (pv 4)) po_none))))
 pss_nil)
 (pss_cons (ps_if (pt_cmpR (op_eqD hu) (pe_ix ix_seq (pv 3) pe_int (fun _ _ => rfl)) pe_int (nomark _))
 (pss_one (ps_ret (pe_op op_addA (pe_slice C8.sl_txt (pv 1) po_none (po_some (pv 4))) (pe_slice C8.sl_txt (pv 1) (po_some (pe_op op_addA (pv 4) pe_int)) po_none))))
 pss_nil)
 (pss_cons (ps_if (pt_cmpR (op_eqD hu) (pe_ix ix_seq (pv 3) pe_int (fun _ _ => rfl)) pe_int (nomark _))
 (pss_one (ps_ret (pe_op op_addA (pe_op op_addA (pe_slice C8.sl_txt (pv 1) po_none (po_some (pv 4))) (pv 5)) (pe_slice C8.sl_txt (pv 1) (po_some (pe_op op_addA (pv 4) pe_int)) po_none))))
 pss_nil)
 (pss_cons (ps_if (pt_cmpR (op_eqD hu) (pe_ix ix_seq (pv 3) pe_int (fun _ _ => rfl)) pe_int (nomark _))
 (pss_cons (ps_set (i := 6) sc_law_other_line.nd rfl (by first | exact Or.inl rfl | exact Or.inr rfl) (pe_ix ix_seq (pe_tup (pa_cons pe_str (pa_cons pe_str (pa_cons pe_str (pa_cons pe_str (pa_cons pe_str (pa_cons pe_str (pa_cons pe_str (pa_cons pe_str pa_nil))))))))) (pe_op op_mod (pe_callTy call_int1 (by rfl) T.m_int bt_int (pa_cons (pe_ix ix_seq (pv 3) pe_int (fun _ _ => rfl)) pa_nil)) pe_int) (fun _ _ => rfl)))
 (pss_one (ps_ret (pe_m1 PySem.F.slot_str_join PySem.F.type_str_join mt_join pe_str (pe_op op_addA (pe_lst (pa_cons (pv 6) pa_nil)) (pe_slice sl_list (pe_m1 PySem.F.slot_str_split PySem.F.type_str_split mt_split (pv 1) pe_str) (po_some pe_int) po_none))))))
 pss_nil)
 (pss_one (ps_ret (pe_op op_addA (pe_op op_addA (pe_slice C8.sl_txt (pv 1) po_none (po_some (pv 4))) (pv 5)) (pe_slice C8.sl_txt (pv 1) (po_some (pv 4)) po_none)))))))))))))))))), ?_⟩
  exact ((sr_seq (sr_asg (er_call (ar_cons (er_var 2) (ar_cons (er_lst (ar_cons er_int (ar_cons er_int (ar_cons er_int (ar_cons er_int (ar_cons er_int (ar_cons er_int ar_nil))))))) ar_nil))) (gr'_name 3))
 (sr_seq (sr_asg (er_2 rr_mod (er_n rc_int (ar_cons (er_2 rr_ix (er_var 3) er_int) ar_nil)) (er_n rc_len (ar_cons (er_var 1) ar_nil))) (gr'_name 4))
 (sr_seq (sr_if (tr_test (er_2 rr_gt (er_2 rr_mod (er_n rc_int (ar_cons (er_2 rr_ix (er_var 3) er_int) ar_nil)) er_int) er_int))
 (sr_asg (er_2 rr_mod (er_n rc_int (ar_cons (er_2 rr_ix (er_var 3) er_int) ar_nil)) (er_n rc_min (ar_cons er_int (ar_cons (er_n rc_len (ar_cons (er_var 1) ar_nil)) ar_nil)))) (gr'_name 4))
 sr_next)
 (sr_seq (sr_asg (er_2 rr_ix er_str (er_2 rr_ix (er_var 3) er_int)) (gr'_name 5))
 (sr_seq (sr_if (tr_test (er_2 rr_eq (er_2 rr_mod (er_n rc_int (ar_cons (er_2 rr_ix (er_var 3) er_int) ar_nil)) er_int) er_int))
 (sr_asg (er_call (ar_cons (er_2 rr_ix (er_var 3) er_int) ar_nil)) (gr'_name 5))
 sr_next)
 (sr_seq (sr_if (tr_test (er_2 rr_lt (er_2 rr_ix (er_var 3) er_int) er_int))
 (sr_ret (er_call (ar_cons (er_var 0) (ar_cons (er_var 1) (ar_cons (er_call (ar_cons (er_2 rr_ix (er_var 3) er_int) ar_nil)) (ar_cons (er_2 rr_ix (er_var 3) er_int) ar_nil))))))
 sr_next)
 (sr_seq (sr_if (tr_test (er_2 rr_eq (er_2 rr_ix (er_var 3) er_int) er_int))
 (sr_ret (er_call (ar_cons (er_2 rr_ix (er_var 3) er_int) ar_nil)))
 sr_next)
 (sr_seq (sr_if (tr_test (er_2 rr_eq (er_2 rr_ix (er_var 3) er_int) er_int))
 (sr_ret (er_2 rr_add (er_var 5) (er_var 1)))
 sr_next)
 (sr_seq (sr_if (tr_test (er_2 rr_eq (er_2 rr_ix (er_var 3) er_int) er_int))
 (sr_ret (er_2 rr_add (er_var 1) (er_var 5)))
 sr_next)
 (sr_seq (sr_if (tr_test (er_2 rr_eq (er_2 rr_ix (er_var 3) er_int) er_int))
 (sr_ret (Zj.er_slS (er_var 1) or_none (or_some (er_var 4))))
 sr_next)
 (sr_seq (sr_if (tr_test (er_2 rr_eq (er_2 rr_ix (er_var 3) er_int) er_int))
 (sr_ret (er_2 rr_add (er_2 rr_add (Zj.er_slS (er_var 1) or_none (or_some (er_var 4))) (er_2 rr_ix (er_var 1) (er_var 4))) (Zj.er_slS (er_var 1) (or_some (er_var 4)) or_none)))
 sr_next)
 (sr_seq (sr_if (tr_test (er_2 rr_eq (er_2 rr_ix (er_var 3) er_int) er_int))
 (sr_ret (er_2 rr_add (Zj.er_slS (er_var 1) or_none (or_some (er_var 4))) (Zj.er_slS (er_var 1) (or_some (er_2 rr_add (er_var 4) er_int)) or_none)))
 sr_next)
 (sr_seq (sr_if (tr_test (er_2 rr_eq (er_2 rr_ix (er_var 3) er_int) er_int))
 (sr_ret (er_2 rr_add (er_2 rr_add (Zj.er_slS (er_var 1) or_none (or_some (er_var 4))) (er_var 5)) (Zj.er_slS (er_var 1) (or_some (er_2 rr_add (er_var 4) er_int)) or_none)))
 sr_next)
 (sr_seq (sr_if (tr_test (er_2 rr_eq (er_2 rr_ix (er_var 3) er_int) er_int))
 (sr_seq (sr_asg (er_2 rr_ix (er_tup (ar_cons er_str (ar_cons er_str (ar_cons er_str (ar_cons er_str (ar_cons er_str (ar_cons er_str (ar_cons er_str (ar_cons er_str ar_nil))))))))) (er_2 rr_mod (er_n rc_int (ar_cons (er_2 rr_ix (er_var 3) er_int) ar_nil)) er_int)) (gr'_name 6))
 (sr_ret (Zj.er_m1 Zj.rm_join er_str (er_2 rr_add (er_lst (ar_cons (er_var 6) ar_nil)) (er_sl (Zj.er_m1 Zj.rm_split (er_var 1) er_str) (or_some er_int) or_none)))))
 sr_next)
 (sr_ret (er_2 rr_add (er_2 rr_add (Zj.er_slS (er_var 1) or_none (or_some (er_var 4))) (er_var 5)) (Zj.er_slS (er_var 1) (or_some (er_var 4)) or_none))))))))))))))))) : SR K _ (t_law_other_line))
theorem sc_law_alike : FnScope N_law_alike ["told", "due"] (defScope s_law_alike) := ⟨rfl, rfl, rfl, by decide +kernel, rfl, by decide +kernel, by decide +kernel⟩
theorem ok_law_alikeU0 (T : Txt K mg w) : FnOk P w K mg base CX0 2 T.f_law_alike T.fd_law_alike ["told", "due"] (spG K 2 (g_law_alikeU0)) := by
  have G_law_is_integer := ok_law_is_integer (P := P) (w := w) (base := base) T
  refine fnG (m := 1) T.F_law_alike sc_law_alike rfl rfl (fun cdv A outer s H E hr => ?_)
  have hu := hr.units
  refine ⟨_, (pss_cons (ps_if (pt_truth (pe_callB call_isi (by rfl) T.m_isinstance bt_isinstance (pa_cons (pv 1) (pa_cons (pe_bltn (v := .ty "tuple") (by rfl) T.m_tuple bt_tuple rfl) pa_nil))) (fun _ => rfl))
 (pss_cons (ps_if ((pw_or (pt_not (pt_truth (pe_callB call_isi (by rfl) T.m_isinstance bt_isinstance (pa_cons (pv 0) (pa_cons (pe_bltn (v := .ty "tuple") (by rfl) T.m_tuple bt_tuple rfl) pa_nil))) (fun _ => rfl))) (pw_or1 (pt_cmpR (op_neD hu) (pe_callB call_lenA (by rfl) T.m_len bt_len (pa_cons (pv 0) pa_nil)) (pe_callB call_lenA (by rfl) T.m_len bt_len (pa_cons (pv 1) pa_nil)) (nomark _))))).pt
 (pss_one (ps_ret pe_bl))
 pss_nil)
 (pss_cons (ps_for PassesOwn.never rfl (pi_range1 (by rfl) T.m_range (pa_cons (pe_callB call_lenA (by rfl) T.m_len bt_len (pa_cons (pv 1) pa_nil)) pa_nil)) (pg_name (i := 2) sc_law_alike.nd rfl (by first | exact Or.inl rfl | exact Or.inr rfl))
 (pss_one (ps_if (pt_not (pt_truth Zq9.pe_no (fun _ => rfl)))
 (pss_one (ps_ret pe_bl))
 pss_nil)))
 (pss_one (ps_ret pe_bl))))
 pss_nil)
 (pss_cons (ps_if (pt_truth (pe_callB call_isi (by rfl) T.m_isinstance bt_isinstance (pa_cons (pv 1) (pa_cons (pe_bltn (v := .ty "str") (by rfl) T.m_str bt_str rfl) pa_nil))) (fun _ => rfl))
 (pss_one (ps_ret (pe_and (pe_callB call_isi (by rfl) T.m_isinstance bt_isinstance (pa_cons (pv 0) (pa_cons (pe_bltn (v := .ty "str") (by rfl) T.m_str bt_str rfl) pa_nil))) (pe_one (pe_cmpR (op_eqD hu) (pv 0) (pv 1) (nomark _))))))
 pss_nil)
 (pss_one (ps_ret (pe_and (pe_call G_law_is_integer (hr.mono (by decide)) (by rfl) T.g_law_is_integer T.F_law_is_integer.kp T.b_law_is_integer .nil pass0 (pa_cons (pv 0) pa_nil)) (pe_one (pe_cmpR (op_eqD hu) (pv 0) (pv 1) (nomark _)))))))), ?_⟩
  exact ((sr_seq (sr_if (tr_tru (er_n rc_isi (ar_cons (er_var 1) (ar_cons er_ty ar_nil))))
 (sr_seq (sr_if (tr_or (tr_not (tr_tru (er_n rc_isi (ar_cons (er_var 0) (ar_cons er_ty ar_nil))))) (tr_test (er_2 rr_ne (er_n rc_len (ar_cons (er_var 0) ar_nil)) (er_n rc_len (ar_cons (er_var 1) ar_nil)))))
 (sr_ret er_bl)
 sr_next)
 (sr_seq (sr_for (ir_rng1 (ar_cons (er_n rc_len (ar_cons (er_var 1) ar_nil)) ar_nil)) (gr'_name 2)
 (sr_if (tr_not (tr_tru Zq9.er_no))
 (sr_ret er_bl)
 sr_next))
 (sr_ret er_bl)))
 sr_next)
 (sr_seq (sr_if (tr_tru (er_n rc_isi (ar_cons (er_var 1) (ar_cons er_ty ar_nil))))
 (sr_ret (er_and (er_n rc_isi (ar_cons (er_var 0) (ar_cons er_ty ar_nil))) (er_2 rr_eq (er_var 0) (er_var 1))))
 sr_next)
 (sr_ret (er_and (er_call (ar_cons (er_var 0) ar_nil)) (er_2 rr_eq (er_var 0) (er_var 1)))))) : SR K _ (t_law_alikeU0))
theorem ok_law_alikeU1 (T : Txt K mg w) : FnOk P w K mg base CX0 3 T.f_law_alike T.fd_law_alike ["told", "due"] (spG K 2 (g_law_alikeU1)) := by
  have G_law_alikeU0 := ok_law_alikeU0 (P := P) (w := w) (base := base) T
  have G_law_is_integer := ok_law_is_integer (P := P) (w := w) (base := base) T
  refine fnG (m := 1) T.F_law_alike sc_law_alike rfl rfl (fun cdv A outer s H E hr => ?_)
  have hu := hr.units
  refine ⟨_, (pss_cons (ps_if (pt_truth (pe_callB call_isi (by rfl) T.m_isinstance bt_isinstance (pa_cons (pv 1) (pa_cons (pe_bltn (v := .ty "tuple") (by rfl) T.m_tuple bt_tuple rfl) pa_nil))) (fun _ => rfl))
 (pss_cons (ps_if ((pw_or (pt_not (pt_truth (pe_callB call_isi (by rfl) T.m_isinstance bt_isinstance (pa_cons (pv 0) (pa_cons (pe_bltn (v := .ty "tuple") (by rfl) T.m_tuple bt_tuple rfl) pa_nil))) (fun _ => rfl))) (pw_or1 (pt_cmpR (op_neD hu) (pe_callB call_lenA (by rfl) T.m_len bt_len (pa_cons (pv 0) pa_nil)) (pe_callB call_lenA (by rfl) T.m_len bt_len (pa_cons (pv 1) pa_nil)) (nomark _))))).pt
 (pss_one (ps_ret pe_bl))
 pss_nil)
 (pss_cons (ps_for PassesOwn.never rfl (pi_range1 (by rfl) T.m_range (pa_cons (pe_callB call_lenA (by rfl) T.m_len bt_len (pa_cons (pv 1) pa_nil)) pa_nil)) (pg_name (i := 2) sc_law_alike.nd rfl (by first | exact Or.inl rfl | exact Or.inr rfl))
 (pss_one (ps_if (pt_not (pt_truth (pe_call G_law_alikeU0 (hr.mono (by decide)) (by rfl) T.g_law_alike T.F_law_alike.kp T.b_law_alike .nil pass0 (pa_cons (pe_ix ix_seq (pv 0) (pv 2) (fun _ _ => rfl)) (pa_cons (pe_ix ix_seq (pv 1) (pv 2) (fun _ _ => rfl)) pa_nil))) (fun _ => rfl)))
 (pss_one (ps_ret pe_bl))
 pss_nil)))
 (pss_one (ps_ret pe_bl))))
 pss_nil)
 (pss_cons (ps_if (pt_truth (pe_callB call_isi (by rfl) T.m_isinstance bt_isinstance (pa_cons (pv 1) (pa_cons (pe_bltn (v := .ty "str") (by rfl) T.m_str bt_str rfl) pa_nil))) (fun _ => rfl))
 (pss_one (ps_ret (pe_and (pe_callB call_isi (by rfl) T.m_isinstance bt_isinstance (pa_cons (pv 0) (pa_cons (pe_bltn (v := .ty "str") (by rfl) T.m_str bt_str rfl) pa_nil))) (pe_one (pe_cmpR (op_eqD hu) (pv 0) (pv 1) (nomark _))))))
 pss_nil)
 (pss_one (ps_ret (pe_and (pe_call G_law_is_integer (hr.mono (by decide)) (by rfl) T.g_law_is_integer T.F_law_is_integer.kp T.b_law_is_integer .nil pass0 (pa_cons (pv 0) pa_nil)) (pe_one (pe_cmpR (op_eqD hu) (pv 0) (pv 1) (nomark _)))))))), ?_⟩
  exact ((sr_seq (sr_if (tr_tru (er_n rc_isi (ar_cons (er_var 1) (ar_cons er_ty ar_nil))))
 (sr_seq (sr_if (tr_or (tr_not (tr_tru (er_n rc_isi (ar_cons (er_var 0) (ar_cons er_ty ar_nil))))) (tr_test (er_2 rr_ne (er_n rc_len (ar_cons (er_var 0) ar_nil)) (er_n rc_len (ar_cons (er_var 1) ar_nil)))))
 (sr_ret er_bl)
 sr_next)
 (sr_seq (sr_for (ir_rng1 (ar_cons (er_n rc_len (ar_cons (er_var 1) ar_nil)) ar_nil)) (gr'_name 2)
 (sr_if (tr_not (tr_tru (er_call (ar_cons (er_2 rr_ix (er_var 0) (er_var 2)) (ar_cons (er_2 rr_ix (er_var 1) (er_var 2)) ar_nil)))))
 (sr_ret er_bl)
 sr_next))
 (sr_ret er_bl)))
 sr_next)
 (sr_seq (sr_if (tr_tru (er_n rc_isi (ar_cons (er_var 1) (ar_cons er_ty ar_nil))))
 (sr_ret (er_and (er_n rc_isi (ar_cons (er_var 0) (ar_cons er_ty ar_nil))) (er_2 rr_eq (er_var 0) (er_var 1))))
 sr_next)
 (sr_ret (er_and (er_call (ar_cons (er_var 0) ar_nil)) (er_2 rr_eq (er_var 0) (er_var 1)))))) : SR K _ (t_law_alikeU1))
theorem ok_law_alike (T : Txt K mg w) : FnOk P w K mg base CX0 4 T.f_law_alike T.fd_law_alike ["told", "due"] (spG K 2 (g_law_alike)) := by
  have G_law_alikeU1 := ok_law_alikeU1 (P := P) (w := w) (base := base) T
  have G_law_is_integer := ok_law_is_integer (P := P) (w := w) (base := base) T
  refine fnG (m := 1) T.F_law_alike sc_law_alike rfl rfl (fun cdv A outer s H E hr => ?_)
  have hu := hr.units
  refine ⟨_, (pss_cons (ps_if (pt_truth (pe_callB call_isi (by rfl) T.m_isinstance bt_isinstance (pa_cons (pv 1) (pa_cons (pe_bltn (v := .ty "tuple") (by rfl) T.m_tuple bt_tuple rfl) pa_nil))) (fun _ => rfl))
 (pss_cons (ps_if ((pw_or (pt_not (pt_truth (pe_callB call_isi (by rfl) T.m_isinstance bt_isinstance (pa_cons (pv 0) (pa_cons (pe_bltn (v := .ty "tuple") (by rfl) T.m_tuple bt_tuple rfl) pa_nil))) (fun _ => rfl))) (pw_or1 (pt_cmpR (op_neD hu) (pe_callB call_lenA (by rfl) T.m_len bt_len (pa_cons (pv 0) pa_nil)) (pe_callB call_lenA (by rfl) T.m_len bt_len (pa_cons (pv 1) pa_nil)) (nomark _))))).pt
 (pss_one (ps_ret pe_bl))
 pss_nil)
 (pss_cons (ps_for PassesOwn.never rfl (pi_range1 (by rfl) T.m_range (pa_cons (pe_callB call_lenA (by rfl) T.m_len bt_len (pa_cons (pv 1) pa_nil)) pa_nil)) (pg_name (i := 2) sc_law_alike.nd rfl (by first | exact Or.inl rfl | exact Or.inr rfl))
 (pss_one (ps_if (pt_not (pt_truth (pe_call G_law_alikeU1 (hr.mono (by decide)) (by rfl) T.g_law_alike T.F_law_alike.kp T.b_law_alike .nil pass0 (pa_cons (pe_ix ix_seq (pv 0) (pv 2) (fun _ _ => rfl)) (pa_cons (pe_ix ix_seq (pv 1) (pv 2) (fun _ _ => rfl)) pa_nil))) (fun _ => rfl)))
 (pss_one (ps_ret pe_bl))
 pss_nil)))
 (pss_one (ps_ret pe_bl))))
 pss_nil)
 (pss_cons (ps_if (pt_truth (pe_callB call_isi (by rfl) T.m_isinstance bt_isinstance (pa_cons (pv 1) (pa_cons (pe_bltn (v := .ty "str") (by rfl) T.m_str bt_str rfl) pa_nil))) (fun _ => rfl))
 (pss_one (ps_ret (pe_and (pe_callB call_isi (by rfl) T.m_isinstance bt_isinstance (pa_cons (pv 0) (pa_cons (pe_bltn (v := .ty "str") (by rfl) T.m_str bt_str rfl) pa_nil))) (pe_one (pe_cmpR (op_eqD hu) (pv 0) (pv 1) (nomark _))))))
 pss_nil)
 (pss_one (ps_ret (pe_and (pe_call G_law_is_integer (hr.mono (by decide)) (by rfl) T.g_law_is_integer T.F_law_is_integer.kp T.b_law_is_integer .nil pass0 (pa_cons (pv 0) pa_nil)) (pe_one (pe_cmpR (op_eqD hu) (pv 0) (pv 1) (nomark _)))))))), ?_⟩
  exact ((sr_seq (sr_if (tr_tru (er_n rc_isi (ar_cons (er_var 1) (ar_cons er_ty ar_nil))))
 (sr_seq (sr_if (tr_or (tr_not (tr_tru (er_n rc_isi (ar_cons (er_var 0) (ar_cons er_ty ar_nil))))) (tr_test (er_2 rr_ne (er_n rc_len (ar_cons (er_var 0) ar_nil)) (er_n rc_len (ar_cons (er_var 1) ar_nil)))))
 (sr_ret er_bl)
 sr_next)
 (sr_seq (sr_for (ir_rng1 (ar_cons (er_n rc_len (ar_cons (er_var 1) ar_nil)) ar_nil)) (gr'_name 2)
 (sr_if (tr_not (tr_tru (er_call (ar_cons (er_2 rr_ix (er_var 0) (er_var 2)) (ar_cons (er_2 rr_ix (er_var 1) (er_var 2)) ar_nil)))))
 (sr_ret er_bl)
 sr_next))
 (sr_ret er_bl)))
 sr_next)
 (sr_seq (sr_if (tr_tru (er_n rc_isi (ar_cons (er_var 1) (ar_cons er_ty ar_nil))))
 (sr_ret (er_and (er_n rc_isi (ar_cons (er_var 0) (ar_cons er_ty ar_nil))) (er_2 rr_eq (er_var 0) (er_var 1))))
 sr_next)
 (sr_ret (er_and (er_call (ar_cons (er_var 0) ar_nil)) (er_2 rr_eq (er_var 0) (er_var 1)))))) : SR K _ (t_law_alike))
theorem sc_law_parsed : FnScope N_law_parsed ["line"] (defScope s_law_parsed) := ⟨rfl, rfl, rfl, by decide +kernel, rfl, by decide +kernel, by decide +kernel⟩
theorem ok_law_parsed (T : Txt K mg w) : FnOk P w K mg base CX0 6 T.f_law_parsed T.fd_law_parsed ["line"] (spG K 1 (g_law_parsed T.c)) := by
  have G_parse_line := ok_parse_line (P := P) (w := w) (base := base) T
  have GR_parse_line := okr_parse_line (P := P) (w := w) (base := base) T
  refine fnG (m := 3) T.F_law_parsed sc_law_parsed rfl rfl (fun cdv A outer s H E hr => ?_)
  have hu := hr.units
  refine ⟨_, (pss_one (Zre.ps_first rfl rfl sc_law_parsed.nd (i := 1) rfl rfl ⟨(by rfl), rfl, .inl T.c_InvalidLine⟩ (fun W pn xe tk hp => pss_one (ps_ret (pe_tup (pa_cons pe_str (pa_cons (pe_callS (Zr.okOr (Zr.okCX G_parse_line) (GR_parse_line.mono (by decide))) (hr.mono (by decide)) (by rfl) T.g_parse_line T.F_parse_line.kp T.b_parse_line (fun σ => L2N.passAt tk σ) (pa_cons (pv 0) pa_nil)) pa_nil)))))
 (fun a oe cls d pn hz0 hf => Zr.pss_exc (K := K) (D := T.c.InvalidLine) (tsD := fun a dd => (tSeq (tAsg (tAndV (tCB (Zr.rIsE K T.c.InvalidLine a dd) (tCons (tVar 1) (tCons (tC (.ref T.c.PoolError)) tNil))) (tCB (Zr.rIsE K T.c.InvalidLine a dd) (tCons (tVar 1) (tCons (tC (.ty "ValueError")) tNil)))) (gName 2)) (tSeq (tFor (iList K (tLst (tCons (tCB (Zr.rIsE K T.c.InvalidLine a dd) (tCons (tVar 1) (tCons (tC (.ref T.c.InvalidName)) tNil))) (tCons (tCB (Zr.rIsE K T.c.InvalidLine a dd) (tCons (tVar 1) (tCons (tC (.ref T.c.InvalidSeats)) tNil))) (tCons (tCB (Zr.rIsE K T.c.InvalidLine a dd) (tCons (tVar 1) (tCons (tC (.ref T.c.InvalidText)) tNil))) tNil))))) (gName 3) (tAsg (tAndV (tVar 2) (tNotV (tVar 3))) (gName 2))) (tRet (tTup (tCons (tC (.str "refused")) (tCons (tXf a (.ref T.c.InvalidLine) (some dd) T.c.InvalidLine "text" (tVar 1)) (tCons (tAndV (tVar 2) (tNotV (tCB (Zr.rIsE K T.c.InvalidLine a dd) (tCons (tVar 1) (tCons (tC (.ref T.c.Missing)) tNil))))) tNil)))))))) hz0.zc fun dd hz => (pss_cons (ps_set (i := 2) sc_law_parsed.nd rfl (by first | exact Or.inl rfl | exact Or.inr rfl) (pe_and (pe_callB (Zr.call_isE T.xc_InvalidLine hz hf) (by rfl) T.m_isinstance bt_isinstance (pa_cons (pv 1) (pa_cons (pe_glob (v := .ref T.c.PoolError) (by rfl) T.c_PoolError rfl) pa_nil))) (pe_one (pe_callB (Zr.call_isE T.xc_InvalidLine hz hf) (by rfl) T.m_isinstance bt_isinstance (pa_cons (pv 1) (pa_cons (pe_bltn (v := .ty "ValueError") (by rfl) T.m_ValueError (by decide +kernel) rfl) pa_nil))))))
 (pss_cons (L2H.ps_forH PassesOwn.never (Zre.hotS hz0 hf) (Zre.pi_listH (pe_lst (pa_cons (pe_callB (Zr.call_isE T.xc_InvalidLine hz hf) (by rfl) T.m_isinstance bt_isinstance (pa_cons (pv 1) (pa_cons (pe_glob (v := .ref T.c.InvalidName) (by rfl) T.c_InvalidName rfl) pa_nil))) (pa_cons (pe_callB (Zr.call_isE T.xc_InvalidLine hz hf) (by rfl) T.m_isinstance bt_isinstance (pa_cons (pv 1) (pa_cons (pe_glob (v := .ref T.c.InvalidSeats) (by rfl) T.c_InvalidSeats rfl) pa_nil))) (pa_cons (pe_callB (Zr.call_isE T.xc_InvalidLine hz hf) (by rfl) T.m_isinstance bt_isinstance (pa_cons (pv 1) (pa_cons (pe_glob (v := .ref T.c.InvalidText) (by rfl) T.c_InvalidText rfl) pa_nil))) pa_nil))))) (pg_name (i := 3) sc_law_parsed.nd rfl (by first | exact Or.inl rfl | exact Or.inr rfl))
 (pss_one (ps_set (i := 2) sc_law_parsed.nd rfl (by first | exact Or.inl rfl | exact Or.inr rfl) (pe_and (pv 2) (pe_one (pe_not (pv 3)))))))
 (pss_one (ps_ret (pe_tup (pa_cons pe_str (pa_cons (pe_xf T.xf_InvalidLine T.hn_InvalidLine_text hz hf (pv 1)) (pa_cons (pe_and (pv 2) (pe_one (pe_not (pe_callB (Zr.call_isE T.xc_InvalidLine hz hf) (by rfl) T.m_isinstance bt_isinstance (pa_cons (pv 1) (pa_cons (pe_glob (v := .ref T.c.Missing) (by rfl) T.c_Missing rfl) pa_nil)))))) pa_nil))))))))))), ?_⟩
  exact ((Zr.sr_try (D := T.c.InvalidLine) (tsD := fun a dd => (tSeq (tAsg (tAndV (tCB (Zr.rIsE K T.c.InvalidLine a dd) (tCons (tVar 1) (tCons (tC (.ref T.c.PoolError)) tNil))) (tCB (Zr.rIsE K T.c.InvalidLine a dd) (tCons (tVar 1) (tCons (tC (.ty "ValueError")) tNil)))) (gName 2)) (tSeq (tFor (iList K (tLst (tCons (tCB (Zr.rIsE K T.c.InvalidLine a dd) (tCons (tVar 1) (tCons (tC (.ref T.c.InvalidName)) tNil))) (tCons (tCB (Zr.rIsE K T.c.InvalidLine a dd) (tCons (tVar 1) (tCons (tC (.ref T.c.InvalidSeats)) tNil))) (tCons (tCB (Zr.rIsE K T.c.InvalidLine a dd) (tCons (tVar 1) (tCons (tC (.ref T.c.InvalidText)) tNil))) tNil))))) (gName 3) (tAsg (tAndV (tVar 2) (tNotV (tVar 3))) (gName 2))) (tRet (tTup (tCons (tC (.str "refused")) (tCons (tXf a (.ref T.c.InvalidLine) (some dd) T.c.InvalidLine "text" (tVar 1)) (tCons (tAndV (tVar 2) (tNotV (tCB (Zr.rIsE K T.c.InvalidLine a dd) (tCons (tVar 1) (tCons (tC (.ref T.c.Missing)) tNil))))) tNil)))))))) (fun W => (Zr.xs_ret (Zr.xe_tup (Zr.xa_tail er_str (Zr.xa_head (Zr.xe_callO (ar_cons (er_var 0) ar_nil))))))) (fun W => (sr_ret (er_tup (ar_cons er_str (ar_cons (Zr.er_callO (ar_cons (er_var 0) ar_nil)) ar_nil))))) T.xm_InvalidLine_InvalidLine (fun a dd => (sr_seq (sr_asg (er_and (Zr.er_is (c := (.ref T.c.PoolError)) (fun _ z => z) T.xs_InvalidLine_PoolError) (Zr.er_is (c := (.ty "ValueError")) (fun _ z => z) T.xs_InvalidLine_ValueError)) (gr'_name 2))
 (sr_seq (sr_for (Zre.ir_lstO (er_lst (ar_cons (Zr.er_is (c := (.ref T.c.InvalidName)) (fun _ z => z) T.xs_InvalidLine_InvalidName) (ar_cons (Zr.er_is (c := (.ref T.c.InvalidSeats)) (fun _ z => z) T.xs_InvalidLine_InvalidSeats) (ar_cons (Zr.er_is (c := (.ref T.c.InvalidText)) (fun _ z => z) T.xs_InvalidLine_InvalidText) ar_nil))))) (gr'_name 3)
 (sr_asg (er_and (er_var 2) (er_not (er_var 3))) (gr'_name 2)))
 (sr_ret (er_tup (ar_cons er_str (ar_cons Zr.er_xf (ar_cons (er_and (er_var 2) (er_not (Zr.er_is (c := (.ref T.c.Missing)) (fun _ z => z) T.xs_InvalidLine_Missing))) ar_nil))))))))) : SR K _ (t_law_parsed T.c))
theorem sc_law_there_and_back : FnScope N_law_there_and_back ["command", "line"] (defScope s_law_there_and_back) := ⟨rfl, rfl, rfl, by decide +kernel, rfl, by decide +kernel, by decide +kernel⟩
theorem ok_law_there_and_back (T : Txt K mg w) : FnOk P w K mg base CX0 7 T.f_law_there_and_back T.fd_law_there_and_back ["command", "line"] (spG K 2 (g_law_there_and_back T.c)) := by
  have G_command_line := ok_command_line (P := P) (w := w) (base := base) T
  have G_law_parsed := ok_law_parsed (P := P) (w := w) (base := base) T
  have G_law_alike := ok_law_alike (P := P) (w := w) (base := base) T
  refine fnG (m := 2) T.F_law_there_and_back sc_law_there_and_back rfl rfl (fun cdv A outer s H E hr => ?_)
  have hu := hr.units
  refine ⟨_, (pss_cons (ps_set (i := 2) sc_law_there_and_back.nd rfl (by first | exact Or.inl rfl | exact Or.inr rfl) (pe_call G_command_line (hr.mono (by decide)) (by rfl) T.g_command_line T.F_command_line.kp T.b_command_line .nil pass0 (pa_cons (pv 0) pa_nil)))
 (pss_cons (ps_if ((pw_or (pt_not (pt_truth (pe_callB call_isi (by rfl) T.m_isinstance bt_isinstance (pa_cons (pv 2) (pa_cons (pe_bltn (v := .ty "str") (by rfl) T.m_str bt_str rfl) pa_nil))) (fun _ => rfl))) (pw_or1 (pt_cmpR (op_neD hu) (pv 2) (pv 1) (nomark _))))).pt
 (pss_one (ps_ret pe_bl))
 pss_nil)
 (pss_cons (ps_set (i := 3) sc_law_there_and_back.nd rfl (by first | exact Or.inl rfl | exact Or.inr rfl) (pe_call G_law_parsed (hr.mono (by decide)) (by rfl) T.g_law_parsed T.F_law_parsed.kp T.b_law_parsed .nil pass0 (pa_cons (pv 1) pa_nil)))
 (pss_one (ps_ret (pe_and (pe_cmpR (op_eqD hu) (pe_ix ix_seq (pv 3) pe_int (fun _ _ => rfl)) pe_str (nomark _)) (pe_one (pe_call G_law_alike (hr.mono (by decide)) (by rfl) T.g_law_alike T.F_law_alike.kp T.b_law_alike .nil pass0 (pa_cons (pe_ix ix_seq (pv 3) pe_int (fun _ _ => rfl)) (pa_cons (pv 0) pa_nil)))))))))), ?_⟩
  exact ((sr_seq (sr_asg (er_call (ar_cons (er_var 0) ar_nil)) (gr'_name 2))
 (sr_seq (sr_if (tr_or (tr_not (tr_tru (er_n rc_isi (ar_cons (er_var 2) (ar_cons er_ty ar_nil))))) (tr_test (er_2 rr_ne (er_var 2) (er_var 1))))
 (sr_ret er_bl)
 sr_next)
 (sr_seq (sr_asg (er_call (ar_cons (er_var 1) ar_nil)) (gr'_name 3))
 (sr_ret (er_and (er_2 rr_eq (er_2 rr_ix (er_var 3) er_int) er_str) (er_call (ar_cons (er_2 rr_ix (er_var 3) er_int) (ar_cons (er_var 0) ar_nil)))))))) : SR K _ (t_law_there_and_back T.c))
theorem sc_law_judged : FnScope N_law_judged ["line"] (defScope s_law_judged) := ⟨rfl, rfl, rfl, by decide +kernel, rfl, by decide +kernel, by decide +kernel⟩
theorem ok_law_judged (T : Txt K mg w) : FnOk P w K mg base CX0 8 T.f_law_judged T.fd_law_judged ["line"] (spG K 1 (g_law_judged T.c)) := by
  have G_law_reading := ok_law_reading (P := P) (w := w) (base := base) T
  have G_law_there_and_back := ok_law_there_and_back (P := P) (w := w) (base := base) T
  have G_law_parsed := ok_law_parsed (P := P) (w := w) (base := base) T
  refine fnG (m := 2) T.F_law_judged sc_law_judged rfl rfl (fun cdv A outer s H E hr => ?_)
  have hu := hr.units
  refine ⟨_, (pss_cons (ps_set (i := 1) sc_law_judged.nd rfl (by first | exact Or.inl rfl | exact Or.inr rfl) (pe_call G_law_reading (hr.mono (by decide)) (by rfl) T.g_law_reading T.F_law_reading.kp T.b_law_reading .nil pass0 (pa_cons (pv 0) pa_nil)))
 (pss_cons (ps_if (pt_cmpR op_notN (pv 1) pe_non (nomark _))
 (pss_one (ps_ret (pe_call G_law_there_and_back (hr.mono (by decide)) (by rfl) T.g_law_there_and_back T.F_law_there_and_back.kp T.b_law_there_and_back .nil pass0 (pa_cons (pv 1) (pa_cons (pv 0) pa_nil)))))
 pss_nil)
 (pss_cons (ps_set (i := 2) sc_law_judged.nd rfl (by first | exact Or.inl rfl | exact Or.inr rfl) (pe_call G_law_parsed (hr.mono (by decide)) (by rfl) T.g_law_parsed T.F_law_parsed.kp T.b_law_parsed .nil pass0 (pa_cons (pv 0) pa_nil)))
 (pss_cons (ps_if ((pw_or (pt_cmpR (op_neD hu) (pe_ix ix_seq (pv 2) pe_int (fun _ _ => rfl)) pe_str (nomark _)) (pw_or1 (pt_not (pt_truth (pe_ix ix_seq (pv 2) pe_int (fun _ _ => rfl)) (fun _ => rfl)))))).pt
 (pss_one (ps_ret pe_bl))
 pss_nil)
 (pss_one (ps_ret (pe_and (pe_callB call_isi (by rfl) T.m_isinstance bt_isinstance (pa_cons (pe_ix ix_seq (pv 2) pe_int (fun _ _ => rfl)) (pa_cons (pe_bltn (v := .ty "str") (by rfl) T.m_str bt_str rfl) pa_nil))) (pe_one (pe_cmpR (op_eqD hu) (pe_ix ix_seq (pv 2) pe_int (fun _ _ => rfl)) (pv 0) (nomark _)))))))))), ?_⟩
  exact ((sr_seq (sr_asg (er_call (ar_cons (er_var 0) ar_nil)) (gr'_name 1))
 (sr_seq (sr_if (tr_test (er_2 rr_isnt (er_var 1) er_non))
 (sr_ret (er_call (ar_cons (er_var 1) (ar_cons (er_var 0) ar_nil))))
 sr_next)
 (sr_seq (sr_asg (er_call (ar_cons (er_var 0) ar_nil)) (gr'_name 2))
 (sr_seq (sr_if (tr_or (tr_test (er_2 rr_ne (er_2 rr_ix (er_var 2) er_int) er_str)) (tr_not (tr_tru (er_2 rr_ix (er_var 2) er_int))))
 (sr_ret er_bl)
 sr_next)
 (sr_ret (er_and (er_n rc_isi (ar_cons (er_2 rr_ix (er_var 2) er_int) (ar_cons er_ty ar_nil))) (er_2 rr_eq (er_2 rr_ix (er_var 2) er_int) (er_var 0)))))))) : SR K _ (t_law_judged T.c))
theorem sc_law : FnScope N_law ["script"] (defScope s_law) := ⟨rfl, rfl, rfl, by decide +kernel, rfl, by decide +kernel, by decide +kernel⟩
theorem ok_law (T : Txt K mg w) : FnOk P w K mg base CX0 9 T.f_law T.fd_law ["script"] (spG K 1 (g_law T.c)) := by
  have G_law_cell := ok_law_cell (P := P) (w := w) (base := base) T
  have G_law_draws := ok_law_draws (P := P) (w := w) (base := base) T
  have G_law_names := ok_law_names (P := P) (w := w) (base := base) T
  have G_law_text := ok_law_text (P := P) (w := w) (base := base) T
  have G_law_command := ok_law_command (P := P) (w := w) (base := base) T
  have G_law_line := ok_law_line (P := P) (w := w) (base := base) T
  have G_law_there_and_back := ok_law_there_and_back (P := P) (w := w) (base := base) T
  have G_law_other_line := ok_law_other_line (P := P) (w := w) (base := base) T
  have G_law_judged := ok_law_judged (P := P) (w := w) (base := base) T
  refine fnG (m := 7) T.F_law sc_law rfl rfl (fun cdv A outer s H E hr => ?_)
  have hu := hr.units
  refine ⟨_, (pss_cons (ps_for PassesOwn.never rfl (pi_range1 (by rfl) T.m_range (pa_cons (pe_callB (call_minA rfl) (by rfl) T.m_min bt_min (pa_cons pe_int (pa_cons (pe_op op_addA pe_int (pe_op op_fdivW (pe_callB call_lenA (by rfl) T.m_len bt_len (pa_cons (pv 0) pa_nil)) pe_int)) pa_nil))) pa_nil)) (pg_name (i := 1) sc_law.nd rfl (by first | exact Or.inl rfl | exact Or.inr rfl))
 (pss_cons (ps_set (i := 2) sc_law.nd rfl (by first | exact Or.inl rfl | exact Or.inr rfl) (pe_call G_law_cell (hr.mono (by decide)) (by rfl) T.g_law_cell T.F_law_cell.kp T.b_law_cell .nil pass0 (pa_cons (pv 0) (pa_cons (pe_op op_mulA pe_int (pv 1)) pa_nil))))
 (pss_cons (ps_set (i := 3) sc_law.nd rfl (by first | exact Or.inl rfl | exact Or.inr rfl) (pe_call G_law_draws (hr.mono (by decide)) (by rfl) T.g_law_draws T.F_law_draws.kp T.b_law_draws .nil pass0 (pa_cons (pv 2) (pa_cons (pe_lst (pa_cons pe_int (pa_cons pe_int (pa_cons pe_int (pa_cons pe_int (pa_cons pe_int (pa_cons pe_int (pa_cons pe_int (pa_cons pe_int (pa_cons pe_int (pa_cons pe_int (pa_cons pe_int (pa_cons pe_int (pa_cons pe_int (pa_cons pe_int (pa_cons pe_int pa_nil)))))))))))))))) pa_nil))))
 (pss_cons (ps_set (i := 4) sc_law.nd rfl (by first | exact Or.inl rfl | exact Or.inr rfl) (pe_call G_law_names (hr.mono (by decide)) (by rfl) T.g_law_names T.F_law_names.kp T.b_law_names .nil pass0 (pa_cons (pe_call G_law_cell (hr.mono (by decide)) (by rfl) T.g_law_cell T.F_law_cell.kp T.b_law_cell .nil pass0 (pa_cons (pv 0) (pa_cons (pe_op op_addA (pe_op op_mulA pe_int (pv 1)) pe_int) pa_nil))) pa_nil)))
 (pss_cons (ps_set (i := 5) sc_law.nd rfl (by first | exact Or.inl rfl | exact Or.inr rfl) (pe_call G_law_text (hr.mono (by decide)) (by rfl) T.g_law_text T.F_law_text.kp T.b_law_text .nil pass0 (pa_cons (pe_call G_law_cell (hr.mono (by decide)) (by rfl) T.g_law_cell T.F_law_cell.kp T.b_law_cell .nil pass0 (pa_cons (pv 0) (pa_cons (pe_op op_addA (pe_op op_mulA pe_int (pv 1)) pe_int) pa_nil))) (pa_cons (pe_ix ix_seq (pe_tup (pa_cons pe_int (pa_cons pe_int (pa_cons pe_int (pa_cons pe_int (pa_cons pe_int (pa_cons pe_int (pa_cons pe_int (pa_cons pe_int (pa_cons pe_int pa_nil)))))))))) (pe_ix ix_seq (pv 3) pe_int (fun _ _ => rfl)) (fun _ _ => rfl)) pa_nil))))
 (pss_cons (ps_set (i := 5) sc_law.nd rfl (by first | exact Or.inl rfl | exact Or.inr rfl) (pe_op op_addA (pe_op op_addA (pe_ix ix_seq (pe_tup (pa_cons pe_str (pa_cons pe_str (pa_cons pe_str (pa_cons pe_str (pa_cons pe_str pa_nil)))))) (pe_ix ix_seq (pv 3) pe_int (fun _ _ => rfl)) (fun _ _ => rfl)) (pv 5)) (pe_ix ix_seq (pe_tup (pa_cons pe_str (pa_cons pe_str (pa_cons pe_str (pa_cons pe_str (pa_cons pe_str pa_nil)))))) (pe_ix ix_seq (pv 3) pe_int (fun _ _ => rfl)) (fun _ _ => rfl))))
 (pss_cons (ps_set (i := 6) sc_law.nd rfl (by first | exact Or.inl rfl | exact Or.inr rfl) (pe_call G_law_command (hr.mono (by decide)) (by rfl) T.g_law_command T.F_law_command.kp T.b_law_command .nil pass0 (pa_cons (pv 3) (pa_cons (pv 4) (pa_cons (pv 5) (pa_cons (pv 2) pa_nil))))))
 (pss_cons (ps_set (i := 7) sc_law.nd rfl (by first | exact Or.inl rfl | exact Or.inr rfl) (pe_call G_law_line (hr.mono (by decide)) (by rfl) T.g_law_line T.F_law_line.kp T.b_law_line .nil pass0 (pa_cons (pv 6) pa_nil)))
 (pss_cons (ps_if (pt_not (pt_truth (pe_call G_law_there_and_back (hr.mono (by decide)) (by rfl) T.g_law_there_and_back T.F_law_there_and_back.kp T.b_law_there_and_back .nil pass0 (pa_cons (pv 6) (pa_cons (pv 7) pa_nil))) (fun _ => rfl)))
 (pss_one (ps_ret pe_bl))
 pss_nil)
 (pss_cons (ps_if (pt_not (pt_truth (pe_call G_law_judged (hr.mono (by decide)) (by rfl) T.g_law_judged T.F_law_judged.kp T.b_law_judged .nil pass0 (pa_cons (pe_call G_law_other_line (hr.mono (by decide)) (by rfl) T.g_law_other_line T.F_law_other_line.kp T.b_law_other_line .nil pass0 (pa_cons (pv 6) (pa_cons (pv 7) (pa_cons (pe_call G_law_cell (hr.mono (by decide)) (by rfl) T.g_law_cell T.F_law_cell.kp T.b_law_cell .nil pass0 (pa_cons (pv 0) (pa_cons (pe_op op_addA (pe_op op_mulA pe_int (pv 1)) pe_int) pa_nil))) pa_nil)))) pa_nil)) (fun _ => rfl)))
 (pss_one (ps_ret pe_bl))
 pss_nil)
 (pss_one (ps_if (pt_not (pt_truth (pe_call G_law_there_and_back (hr.mono (by decide)) (by rfl) T.g_law_there_and_back T.F_law_there_and_back.kp T.b_law_there_and_back .nil pass0 (pa_cons (pv 6) (pa_cons (pv 7) pa_nil))) (fun _ => rfl)))
 (pss_one (ps_ret pe_bl))
 pss_nil))))))))))))
 (pss_one (ps_ret pe_bl))), ?_⟩
  exact ((sr_seq (sr_for (ir_rng1 (ar_cons (er_n rc_min (ar_cons er_int (ar_cons (er_2 rr_add er_int (er_2 rr_fdiv (er_n rc_len (ar_cons (er_var 0) ar_nil)) er_int)) ar_nil))) ar_nil)) (gr'_name 1)
 (sr_seq (sr_asg (er_call (ar_cons (er_var 0) (ar_cons (er_2 rr_mul er_int (er_var 1)) ar_nil))) (gr'_name 2))
 (sr_seq (sr_asg (er_call (ar_cons (er_var 2) (ar_cons (er_lst (ar_cons er_int (ar_cons er_int (ar_cons er_int (ar_cons er_int (ar_cons er_int (ar_cons er_int (ar_cons er_int (ar_cons er_int (ar_cons er_int (ar_cons er_int (ar_cons er_int (ar_cons er_int (ar_cons er_int (ar_cons er_int (ar_cons er_int ar_nil)))))))))))))))) ar_nil))) (gr'_name 3))
 (sr_seq (sr_asg (er_call (ar_cons (er_call (ar_cons (er_var 0) (ar_cons (er_2 rr_add (er_2 rr_mul er_int (er_var 1)) er_int) ar_nil))) ar_nil)) (gr'_name 4))
 (sr_seq (sr_asg (er_call (ar_cons (er_call (ar_cons (er_var 0) (ar_cons (er_2 rr_add (er_2 rr_mul er_int (er_var 1)) er_int) ar_nil))) (ar_cons (er_2 rr_ix (er_tup (ar_cons er_int (ar_cons er_int (ar_cons er_int (ar_cons er_int (ar_cons er_int (ar_cons er_int (ar_cons er_int (ar_cons er_int (ar_cons er_int ar_nil)))))))))) (er_2 rr_ix (er_var 3) er_int)) ar_nil))) (gr'_name 5))
 (sr_seq (sr_asg (er_2 rr_add (er_2 rr_add (er_2 rr_ix (er_tup (ar_cons er_str (ar_cons er_str (ar_cons er_str (ar_cons er_str (ar_cons er_str ar_nil)))))) (er_2 rr_ix (er_var 3) er_int)) (er_var 5)) (er_2 rr_ix (er_tup (ar_cons er_str (ar_cons er_str (ar_cons er_str (ar_cons er_str (ar_cons er_str ar_nil)))))) (er_2 rr_ix (er_var 3) er_int))) (gr'_name 5))
 (sr_seq (sr_asg (er_call (ar_cons (er_var 3) (ar_cons (er_var 4) (ar_cons (er_var 5) (ar_cons (er_var 2) ar_nil))))) (gr'_name 6))
 (sr_seq (sr_asg (er_call (ar_cons (er_var 6) ar_nil)) (gr'_name 7))
 (sr_seq (sr_if (tr_not (tr_tru (er_call (ar_cons (er_var 6) (ar_cons (er_var 7) ar_nil)))))
 (sr_ret er_bl)
 sr_next)
 (sr_seq (sr_if (tr_not (tr_tru (er_call (ar_cons (er_call (ar_cons (er_var 6) (ar_cons (er_var 7) (ar_cons (er_call (ar_cons (er_var 0) (ar_cons (er_2 rr_add (er_2 rr_mul er_int (er_var 1)) er_int) ar_nil))) ar_nil)))) ar_nil))))
 (sr_ret er_bl)
 sr_next)
 (sr_if (tr_not (tr_tru (er_call (ar_cons (er_var 6) (ar_cons (er_var 7) ar_nil)))))
 (sr_ret er_bl)
 sr_next)))))))))))
 (sr_ret er_bl)) : SR K _ (t_law T.c))
end
end
end Y
end

section
set_option Elab.async false
set_option linter.all false
set_option maxRecDepth 100000
set_option autoImplicit false
set_option maxHeartbeats 2000000
/-! Loops by a word. -/
namespace Zk
open PySem L2
def StepTo (o : Option Out) (J : Gm → Prop) : Prop := ∃ g, (o = some (.nx g) ∨ o = some (.ct g)) ∧ J g
theorem step_nx {g : Gm} {J : Gm → Prop} (h : J g) : StepTo (some (.nx g)) J := ⟨g, .inl rfl, h⟩
def Gets (o : Option Wd) (C : Wd → Prop) : Prop := ∃ w, o = some w ∧ C w
theorem gets_some {w : Wd} {C : Wd → Prop} (h : C w) : Gets (some w) C := ⟨w, rfl, h⟩
theorem loop_by {f : DGF} {s : SF} {ds : List D} (I : Nat → Gm → Prop) {g : Gm} (h0 : I 0 g) (hs : ∀ (i : Nat) (d : D) (g : Gm), ds[i]? = some d → I i g → ∃ g1, f d g = some g1 ∧ StepTo (s g1) (I (i + 1))) :
    ∃ g', loopD f s ds g = some (.nx g') ∧ I ds.length g' := loop_inv I h0 fun i d g hd hI => by
  obtain ⟨g1, h1, g2, h2, h3⟩ := hs i d g hd hI
  exact ⟨g1, g2, h1, h2, h3⟩
/-- over a range, the turn's number in slot k -/
theorem rng_by {s : SF} {n k : Nat} (I : Nat → Gm → Prop) {g : Gm} (h0 : I 0 g) (hk : ∀ i g, I i g → okSlot g k = true) (hs : ∀ (i : Nat) (g : Gm), i < n → I i g → StepTo (s (g.set k (some (.v (.int (i : Int)))))) (I (i + 1))) :
    ∃ g', loopD (dName k) s (rngL 0 n) g = some (.nx g') ∧ I n g' := by
  obtain ⟨g', e, h⟩ := loop_by (f := dName k) (s := s) (ds := rngL 0 n) I h0 fun i d g hd hI => by
    obtain ⟨hi, rfl⟩ := rng_get hd
    exact ⟨_, dName_ok (hk i g hI), by rw [Int.zero_add]; exact hs i g hi hI⟩
  rw [rng_len] at h
  exact ⟨g', e, h⟩
theorem rng_then {s q : SF} {n k : Nat} {C : Option Out → Prop} (I : Nat → Gm → Prop) {g : Gm} (h0 : I 0 g) (hk : ∀ i g, I i g → okSlot g k = true) (hs : ∀ (i : Nat) (g : Gm), i < n → I i g → StepTo (s (g.set k (some (.v (.int (i : Int)))))) (I (i + 1)))
    (kk : ∀ g', I n g' → C (q g')) : C (apSeq (loopD (dName k) s (rngL 0 n) g) q) := by
  obtain ⟨g', e, h⟩ := rng_by I h0 hk hs
  rw [e]
  exact kk g' h
/-- numbers below their sizes -/
def Below (ds sizes : List Int) : Prop := ds.length = sizes.length ∧ ∀ (i : Nat) (d s : Int), ds[i]? = some d → sizes[i]? = some s → 0 ≤ d ∧ d < s
theorem Below.get {ds sizes : List Int} (h : Below ds sizes) {i : Nat} {s : Int} (hs : sizes[i]? = some s) : ∃ d, ds[i]? = some d ∧ 0 ≤ d ∧ d < s := by
  have hi : i < sizes.length := (List.getElem?_eq_some_iff.mp hs).1
  rw [← h.1] at hi
  exact ⟨ds[i], List.getElem?_eq_getElem hi, h.2 i _ s (List.getElem?_eq_getElem hi) hs⟩
theorem pow10_12 : powD (.int 10) (.int 12) = some (.int 1000000000000) := by rfl
theorem pow10_18 : powD (.int 10) (.int 18) = some (.int 1000000000000000000) := by rfl
theorem pow10_39 : powD (.int 10) (.int 39) = some (.int (10 ^ 39)) := by rfl
theorem pow10_41 : powD (.int 10) (.int 41) = some (.int (10 ^ 41)) := by rfl
theorem pow10_59 : powD (.int 10) (.int 59) = some (.int (10 ^ 59)) := by rfl
theorem pow10_60 : powD (.int 10) (.int 60) = some (.int (10 ^ 60)) := by rfl
theorem ix_i {ns : List Int} {m : Nat} {j : Int} (h : ns[m]? = some j) : ixD (.lst (iL ns)) (.int (m : Int)) = some (.int j) := ix_l (by rw [iL_get, h] <;> rfl)

theorem mul_lz {ds : List D} {k : Int} (h : k ≤ 100000 ∧ -100000 ≤ k ∧ ds.length * k.toNat ≤ 100000) : mulD (.lst ds) (.int k) = some (.lst (List.replicate k.toNat ds).flatten) := if_pos h
/-- ascending numbers below n -/
def Asc (n : Nat) (hs : List Int) : Prop := hs.Pairwise (· < ·) ∧ ∀ h ∈ hs, 0 ≤ h ∧ h < (n : Int)
def rngI (lo : Int) (n : Nat) : List Int := (List.range n).map fun i => lo + ((i : Nat) : Int)
theorem rngI_pw (lo : Int) (n : Nat) : (rngI lo n).Pairwise (· < ·) := by
  unfold rngI
  rw [List.pairwise_map]
  exact List.pairwise_lt_range.imp fun {a b} h => by omega
theorem rngI_mem {lo : Int} {n : Nat} {k : Int} : k ∈ rngI lo n ↔ lo ≤ k ∧ k < lo + n := by
  unfold rngI
  rw [List.mem_map]
  constructor
  · rintro ⟨i, hi, rfl⟩
    rw [List.mem_range] at hi
    omega
  · rintro ⟨h1, h2⟩
    exact ⟨(k - lo).toNat, List.mem_range.mpr (by omega), by omega⟩
theorem Asc.sub {n : Nat} {hs : List Int} (h : hs.Sublist (rngI 0 n)) : Asc n hs :=
  ⟨(rngI_pw 0 n).sublist h, fun k hk => by have := rngI_mem.mp (h.subset hk); omega⟩
theorem Asc.nodup {n : Nat} {hs : List Int} (h : Asc n hs) : hs.Nodup := h.1.imp fun q => by omega
theorem Asc.len {n : Nat} {hs : List Int} (h : Asc n hs) : hs.length ≤ n := by
  have s : ∀ (ks : List Int) (m : Int), ks.Pairwise (· < ·) → (∀ k ∈ ks, m ≤ k ∧ k < (n : Int)) → m ≤ n → (ks.length : Int) ≤ n - m := by
    intro ks
    induction ks with
    | nil => intro m _ _ hm; simp; omega
    | cons k ks ih =>
      intro m hp hk hm
      have hp' := List.pairwise_cons.mp hp
      have := hk k List.mem_cons_self
      have ih := ih (k + 1) hp'.2 (fun j hj => ⟨by have := hp'.1 j hj; omega, (hk j (List.mem_cons_of_mem _ hj)).2⟩) (by omega)
      rw [List.length_cons]
      omega
  have := s hs 0 h.1 (fun k hk => h.2 k hk) (by omega)
  omega
/-- pairs -/
def pr (a b : Int) : D := .tup [.int a, .int b]
theorem seq_then {o : Option Out} {q : SF} {C : Option Out → Prop} (J : Gm → Prop) (h : ∃ g, o = some (.nx g) ∧ J g) (k : ∀ g, J g → C (q g)) : C (apSeq o q) := by
  obtain ⟨g, e, h⟩ := h
  rw [e]
  exact k g h
theorem flat4_iL (ns : List Int) : (iL ns).all D.flat4 = true := by
  unfold iL
  rw [List.all_map]
  exact List.all_eq_true.mpr fun x _ => rfl
theorem any_iL (ns : List Int) (k : Int) : ((iL ns).any fun z => eqF z (.int k)) = ns.contains k := by
  unfold iL
  rw [List.any_map, List.contains_eq_any_beq]
  congr 1
  funext x
  show (x == k) = (k == x)
  exact Bool.eq_iff_iff.mpr ⟨fun h => by rw [eq_of_beq h]; exact beq_self_eq_true _, fun h => by rw [eq_of_beq h]; exact beq_self_eq_true _⟩
theorem in_l {ns : List Int} {k : Int} : inD (.int k) (.lst (iL ns)) = some (.bl (ns.contains k)) := by
  show (if ((D.int k).flat4 && (iL ns).all D.flat4) = true then some ((iL ns).any fun z => eqF z (.int k)) else none).map D.bl = _
  rw [flat4_iL, any_iL]
  rfl
theorem in_t {ns : List Int} {k : Int} : inD (.int k) (.tup (iL ns)) = some (.bl (ns.contains k)) := by
  show (if ((D.int k).flat4 && (iL ns).all D.flat4) = true then some ((iL ns).any fun z => eqF z (.int k)) else none).map D.bl = _
  rw [flat4_iL, any_iL]
  rfl
theorem in_pr {a b k : Int} : inD (.int k) (pr a b) = some (.bl ([a, b].contains k)) := in_t (ns := [a, b])
/-- rows of seats -/
def rowsL (hs : List (List Int)) : List D := hs.map fun h => .lst (iL h)
def rowsT (hs : List (List Int)) : List D := hs.map fun h => .tup (iL h)
structure PoolOk (caps : List Int) (hs : List (List Int)) (m : Nat) : Prop where
  s1 : 1 ≤ caps.length
  s12 : caps.length ≤ 12
  c0 : ∀ c ∈ caps, 0 ≤ c ∧ c < 10 ^ 60
  pm : hs.length ≤ m
  asc : ∀ h ∈ hs, Asc caps.length h
theorem call1 {gf : PF} {a0 : D} : apCall 1 gf (some [a0]) = (gf [a0]).map Wd.d := (rfl)
theorem callO1 {gf : PF} {a0 : D} : apCallO 1 gf (some [a0]) = toO (gf [a0]) := (rfl)
theorem call2 {gf : PF} {a0 a1 : D} : apCall 2 gf (some [a0, a1]) = (gf [a0, a1]).map Wd.d := (rfl)
theorem callO2 {gf : PF} {a0 a1 : D} : apCallO 2 gf (some [a0, a1]) = toO (gf [a0, a1]) := (rfl)
theorem call3 {gf : PF} {a0 a1 a2 : D} : apCall 3 gf (some [a0, a1, a2]) = (gf [a0, a1, a2]).map Wd.d := (rfl)
theorem callO3 {gf : PF} {a0 a1 a2 : D} : apCallO 3 gf (some [a0, a1, a2]) = toO (gf [a0, a1, a2]) := (rfl)
theorem call4 {gf : PF} {a0 a1 a2 a3 : D} : apCall 4 gf (some [a0, a1, a2, a3]) = (gf [a0, a1, a2, a3]).map Wd.d := (rfl)
theorem callO4 {gf : PF} {a0 a1 a2 a3 : D} : apCallO 4 gf (some [a0, a1, a2, a3]) = toO (gf [a0, a1, a2, a3]) := (rfl)
theorem call5 {gf : PF} {a0 a1 a2 a3 a4 : D} : apCall 5 gf (some [a0, a1, a2, a3, a4]) = (gf [a0, a1, a2, a3, a4]).map Wd.d := (rfl)
theorem callO5 {gf : PF} {a0 a1 a2 a3 a4 : D} : apCallO 5 gf (some [a0, a1, a2, a3, a4]) = toO (gf [a0, a1, a2, a3, a4]) := (rfl)
theorem call6 {gf : PF} {a0 a1 a2 a3 a4 a5 : D} : apCall 6 gf (some [a0, a1, a2, a3, a4, a5]) = (gf [a0, a1, a2, a3, a4, a5]).map Wd.d := (rfl)
theorem callO6 {gf : PF} {a0 a1 a2 a3 a4 a5 : D} : apCallO 6 gf (some [a0, a1, a2, a3, a4, a5]) = toO (gf [a0, a1, a2, a3, a4, a5]) := (rfl)
theorem dgTup2_a {m : DGFs} {a b : D} {g : Gm} : dgTup 2 m (.tup [a, b]) g = m [a, b] g := rfl
theorem dgTup3_a {m : DGFs} {a b e : D} {g : Gm} : dgTup 3 m (.tup [a, b, e]) g = m [a, b, e] g := rfl
end Zk
end

section
set_option Elab.async false
set_option linter.all false
set_option maxRecDepth 100000
set_option maxHeartbeats 2000000
/-! What the laws' own helpers are worth. -/
namespace Zc
open PySem L2 Zk
structure Cs where
  Pool : Addr
def t_law_cell : SF :=
 (sSeq (sIf (tDt blD (d2 ltD (dVar 1) (dN lenD (aCons (dVar 0) aNil))))
 (sRet (d2 ixD (dVar 0) (dVar 1)))
 sNext)
 (sRet (dC (.int 0))))
def g_law_cell : PF := runG 0 (t_law_cell)
def t_law_draws : SF :=
 (sSeq (sAsg (dN absD (aCons (dN intD (aCons (dVar 0) aNil)) aNil)) (dName 2))
 (sSeq (sAsg (d2 geD (dVar 2) (d2 powD (dC (.int 10)) (dC (.int 18)))) (dName 3))
 (sSeq (sAsgO (dN mkLst aNil) 4)
 (sSeq (sFor (dRng1 (aCons (dN lenD (aCons (dVar 1) aNil)) aNil)) (dName 5)
 (sSeq (sAsg (d2 ixD (dVar 1) (dVar 5)) (dName 6))
 (sIf (dAndT (tDt truD (dVar 3)) (tDt blD (d2 gtD (dVar 2) (dC (.int 0)))))
 (sSeq (sApp 4 (d2 modD (dN intD (aCons (dVar 2) aNil)) (dVar 6)))
 (sAsg (d2 fdivD (dVar 2) (dVar 6)) (dName 2)))
 (sSeq (sAsg (d2 modD (dN intD (aCons (d2 addD (d2 addD (dN absD (aCons (dN intD (aCons (dVar 0) aNil)) aNil)) (d2 mulD (dC (.int 7919)) (dVar 5))) (dC (.int 13))) aNil)) (dC (.int 2147483647))) (dName 7))
 (sSeq (sAsg (d2 modD (dN intD (aCons (d2 mulD (dVar 7) (d2 addD (dVar 7) (dC (.int 48271)))) aNil)) (dC (.int 2147483629))) (dName 7))
 (sSeq (sAsg (d2 modD (dN intD (aCons (d2 addD (d2 mulD (dVar 7) (d2 addD (dVar 7) (dC (.int 69621)))) (d2 mulD (dC (.int 31)) (dVar 5))) aNil)) (dC (.int 2147483647))) (dName 7))
 (sApp 4 (d2 modD (dN intD (aCons (d2 fdivD (dVar 7) (dC (.int 9))) aNil)) (dVar 6)))))))))
 (sRetV 4)))))
def g_law_draws : PF := runG 6 (t_law_draws)
def t_law_is_integer : SF :=
 (sRet (dAndV (dN isiD (aCons (dVar 0) (aCons (dC (.ty "int")) aNil))) (d1 notD (dN isiD (aCons (dVar 0) (aCons (dC (.ty "bool")) aNil))))))
def g_law_is_integer : PF := runG 0 (t_law_is_integer)
local macro_rules | `(tactic| walk_at "zs") => `(tactic| simp only [mul_lz, List.flatten_cons, List.flatten_nil, Int.reduceToNat, add_ll, pow10_12, pow10_18, pow10_39, pow10_41, pow10_59, pow10_60, mkLst_some, mkTup_some, List.length_cons, List.length_nil, Nat.zero_le, Nat.reduceAdd, Nat.reduceLeDiff, call1, callO1, call2, callO2, call3, callO3, call4, callO4, call5, callO5, call6, callO6, ap1_some, ap2_some, apN_some, apC_some, d1_a, d2_a, dN_a, aNil_a, aCons_a, dC_a, dVar_z, dVar_s, tDt_a, apAnd_t, apAnd_f, apOr_t, apOr_f, dAndT_a, dOrT_a, apNot_some, dNotT_a, apAndV_t, apAndV_f, dAndV_a, apOrV_t, apOrV_f, dOrV_a, apIf_t, apIf_f, dIf_a, apCh_t, apCh_f, apChain_some, dChain_a, apSeq_nx, apSeq_rt, apSeq_ct, apSeq_bk, sSeq_a, apIfS_t, apIfS_f, sIf_a, sNext_a, sCont_a, sBreak_a, apRet_some, sRet_a, apRetO_some, sRetO_a, sRetN_a, getO_z, getO_s, apRetV_some, sRetV_a, ltB_z, ltB_s, okSlot_s, apAsg_some, sAsg_a, dName_ok, apG_some, dgCons_a, dgNil_a, apAsgO_some, sAsgO_a, sApp_a, sSetI_a, apFor_some, sFor_a, dItems_a, dRng1_a, dRng2_a, apEn_some, dEnum_a, sFrz_a, frzs_nil, frzs_cons, frzI_o, frzI_v, frzI_n, frzI_s, frz1_s, frzAll_nil, frzAll_o, frzAll_v, frzAll_n, peekT_a, apPk_int, apPk_bl, apPk_str, apPk_non, peekF_a, dCall_a, toO_o, dCallO_a, dMake_a, Wd_v, Wd_o, dSl_a, apSl_some, oNone_a, oSome_a, apO_some, add_ii, sub_ii, lt_ii, le_ii, gt_ii, ge_ii, eq_ii, ne_ii, neg_i, not_b, bl_b, tru_b, tru_i, tru_l, tru_t, tru_n, len_l, len_t, len_scr, abs_i, int_i, list_l, list_t, tuple_l, tuple_t, min_ii, max_ii, rev_l, items_l, items_t, iL_len, run_a, outW_rt, outW_nx, List.map_cons, List.map_nil, List.replicate, List.append_nil, List.cons_append, List.nil_append, List.set_cons_zero, List.set_cons_succ, Option.map_some])
/-! ### draws -/
theorem draws_spec (c : Int) (sizes : List Int) (hs : ∀ s ∈ sizes, 0 < s ∧ s < 2 ^ 60) (hl : sizes.length ≤ 1000) : Gets (g_law_draws [.int c, .lst (iL sizes)]) fun w => ∃ ds, w = .o (.lst (iL ds)) ∧ Below ds sizes := by
  unfold g_law_draws t_law_draws
  walk_at "zs"
  rw [apR1_some (by omega)]
  walk_at "zs"
  refine rng_then (C := fun o => Gets (outW o) _) (fun i g => ∃ (left : Int) (acc : List Int) (dg : Bool) (k sz mx : Option Wd), g = [some (.v (.int c)), some (.v (.lst (iL sizes))), some (.v (.int left)), some (.v (.bl dg)), some (.o (.lst (iL acc))), k, sz, mx] ∧ acc.length = i ∧
    ∀ (j : Nat) (d s : Int), acc[j]? = some d → sizes[j]? = some s → 0 ≤ d ∧ d < s) ?_ ?_ ?_ ?_
  · exact ⟨_, [], _, _, _, _, rfl, rfl, fun j d s h => by simp at h⟩
  · rintro i g ⟨left, acc, dg, k, sz, mx, rfl, _⟩
    rfl
  · rintro i g hi ⟨left, acc, dg, k, sz, mx, rfl, hlen, hb⟩
    have hsz : sizes[i]? = some sizes[i] := List.getElem?_eq_getElem hi
    obtain ⟨p1, p2⟩ := hs sizes[i] (List.getElem_mem hi)
    have fin : ∀ (x : Int), 0 ≤ x ∧ x < sizes[i] → ∀ (j : Nat) (d s : Int), (acc ++ [x])[j]? = some d → sizes[j]? = some s → 0 ≤ d ∧ d < s := fun x hx j d s h1 h2 => by
      by_cases hj : j < acc.length
      · rw [List.getElem?_append_left hj] at h1
        exact hb j d s h1 h2
      · rw [List.getElem?_append_right (by omega)] at h1
        have e : j = acc.length := by
          by_cases e : j = acc.length
          · exact e
          · rw [List.getElem?_eq_none (by simp; omega)] at h1; cases h1
        subst e
        simp at h1
        rw [hlen, hsz] at h2
        cases h2
        rw [← h1]
        exact hx
    have modb : ∀ x : Int, 0 ≤ x % sizes[i] ∧ x % sizes[i] < sizes[i] := fun x => ⟨Int.emod_nonneg _ (by omega), Int.emod_lt_of_pos _ p1⟩
    have mb : ∀ x m : Int, 0 < m → m < 2 ^ 31 → 0 ≤ x % m ∧ x % m < 2 ^ 31 := fun x m h h' => ⟨Int.emod_nonneg _ (by omega), Int.lt_trans (Int.emod_lt_of_pos _ h) h'⟩
    walk_at "zs"
    rw [ix_i hsz]
    walk_at "zs"
    have step2 : StepTo ((sSeq (sAsg (d2 modD (dN intD (aCons (d2 addD (d2 addD (dN absD (aCons (dN intD (aCons (dVar 0) aNil)) aNil)) (d2 mulD (dC (.int 7919)) (dVar 5))) (dC (.int 13))) aNil)) (dC (.int 2147483647))) (dName 7))
 (sSeq (sAsg (d2 modD (dN intD (aCons (d2 mulD (dVar 7) (d2 addD (dVar 7) (dC (.int 48271)))) aNil)) (dC (.int 2147483629))) (dName 7))
 (sSeq (sAsg (d2 modD (dN intD (aCons (d2 addD (d2 mulD (dVar 7) (d2 addD (dVar 7) (dC (.int 69621)))) (d2 mulD (dC (.int 31)) (dVar 5))) aNil)) (dC (.int 2147483647))) (dName 7))
 (sApp 4 (d2 modD (dN intD (aCons (d2 fdivD (dVar 7) (dC (.int 9))) aNil)) (dVar 6)))))) [some (.v (.int c)), some (.v (.lst (iL sizes))), some (.v (.int left)), some (.v (.bl dg)), some (.o (.lst (iL acc))), some (.v (.int (i : Int))), some (.v (.int sizes[i])), mx]) (fun g => ∃ (left : Int) (acc : List Int) (dg : Bool) (k sz mx : Option Wd), g = [some (.v (.int c)), some (.v (.lst (iL sizes))), some (.v (.int left)), some (.v (.bl dg)), some (.o (.lst (iL acc))), k, sz, mx] ∧ acc.length = i + 1 ∧
    ∀ (j : Nat) (d s : Int), acc[j]? = some d → sizes[j]? = some s → 0 ≤ d ∧ d < s) := by
      walk_at "zs"
      rw [mul_small (by decide) (by omega)]
      walk_at "zs"
      rw [mod_ii (by decide)]
      walk_at "zs"
      have b1 := mb ((if c < 0 then -c else c) + 7919 * (i : Int) + 13) 2147483647 (by decide) (by decide)
      generalize ((if c < 0 then -c else c) + 7919 * (i : Int) + 13) % 2147483647 = m1 at b1 ⊢
      rw [mul_small (by omega) (by omega)]
      walk_at "zs"
      rw [mod_ii (by decide)]
      walk_at "zs"
      have b2 := mb (m1 * (m1 + 48271)) 2147483629 (by decide) (by decide)
      generalize (m1 * (m1 + 48271)) % 2147483629 = m2 at b2 ⊢
      rw [mul_small (by omega) (by omega), mul_small (by decide) (by omega)]
      walk_at "zs"
      rw [mod_ii (by decide)]
      walk_at "zs"
      rw [fdiv_ii (by decide) (by decide)]
      walk_at "zs"
      rw [mod_ii p1, apApp_some (by rw [iL_len]; omega), iL_one, iL_app]
      walk_at "zs"
      exact step_nx ⟨left, _, dg, _, _, _, rfl, by simp [hlen], fin _ (modb _)⟩
    cases dg with
    | false =>
      walk_at "zs"
      exact step2
    | true =>
      walk_at "zs"
      by_cases h0 : 0 < left
      · rw [decide_eq_true h0]
        walk_at "zs"
        rw [mod_ii p1, apApp_some (by rw [iL_len]; omega), iL_one, iL_app]
        walk_at "zs"
        rw [fdiv_ii p1 (by omega)]
        walk_at "zs"
        exact step_nx ⟨_, _, true, _, _, _, rfl, by simp [hlen], fin _ (modb _)⟩
      · rw [decide_eq_false h0]
        walk_at "zs"
        exact step2
  · rintro g' ⟨left, acc, dg, k, sz, mx, rfl, hlen, hb⟩
    walk_at "zs"
    exact gets_some ⟨acc, rfl, hlen, hb⟩
/-! ### bits, pairs -/
/-! ### pools -/
theorem rowsL_snoc {hs : List (List Int)} {h : List Int} : rowsL hs ++ [.lst (iL h)] = rowsL (hs ++ [h]) := by unfold rowsL; rw [List.map_append] <;> rfl
end Zc
end

section
set_option Elab.async false
set_option linter.all false
set_option maxRecDepth 100000
set_option maxHeartbeats 2000000
/-! The pool's own class and functions, as the laws use them. -/
namespace Zc
open PySem L2 Zk
/-! ### items that differ -/
def Hold (n : Nat) (h : List Int) : Prop := h.Nodup ∧ ∀ k ∈ h, 0 ≤ k ∧ k < (n : Int)
theorem Asc.hold {n : Nat} {h : List Int} (a : Asc n h) : Hold n h := ⟨a.nodup, a.2⟩
theorem srt_le (h : List Int) : (srt h).Pairwise (· ≤ ·) := by
  have e := List.pairwise_mergeSort (le := fun a b : Int => decide (a ≤ b)) (fun a b c h1 h2 => by simp at h1 h2 ⊢; omega) (fun a b => by simp; omega) h
  exact e.imp fun q => of_decide_eq_true q
theorem Hold.asc {n : Nat} {h : List Int} (a : Hold n h) : Asc n (srt h) := by
  refine ⟨?_, fun k hk => a.2 k ((srt_perm h).mem_iff.mp hk)⟩
  have e := (srt_le h).and ((srt_perm h).nodup_iff.mpr a.1)
  exact e.imp fun ⟨q, r⟩ => by omega
theorem Hold.len {n : Nat} {h : List Int} (a : Hold n h) : h.length ≤ n := by
  rw [← (srt_perm h).length_eq]
  exact a.asc.len
/-! ### pools -/
end Zc
end

section
set_option Elab.async false
set_option linter.all false
set_option maxRecDepth 100000
set_option maxHeartbeats 2000000
/-! Rooms and held pairs. -/
namespace Zc
open PySem L2 Zk
theorem cut_from {α : Type} (xs : List α) (n : Nat) : cutL xs (some (n : Int)) none = xs.drop n := by
  unfold cutL HT.sIx
  have e : ¬ ((n : Int) < 0) := by omega
  simp only [if_neg e, Int.toNat_natCast]
  by_cases h : n ≤ xs.length
  · rw [Nat.min_eq_left h, List.take_of_length_le (by rw [List.length_drop]; exact Nat.le_refl _)]
  · rw [Nat.min_eq_right (by omega), List.drop_of_length_le (Nat.le_refl _), List.drop_of_length_le (by omega), List.take_nil]
theorem cut_to {α : Type} (xs : List α) (n : Nat) : cutL xs none (some (n : Int)) = xs.take n := by
  unfold cutL HT.sIx
  have e : ¬ ((n : Int) < 0) := by omega
  simp only [if_neg e, Int.toNat_natCast, Nat.sub_zero, List.drop_zero]
  by_cases h : n ≤ xs.length
  · rw [Nat.min_eq_left h]
  · rw [Nat.min_eq_right (by omega), List.take_of_length_le (Nat.le_refl _), List.take_of_length_le (by omega)]
theorem rowsT_len (hs : List (List Int)) : (rowsT hs).length = hs.length := by unfold rowsT; rw [List.length_map]
theorem rowsL_len (hs : List (List Int)) : (rowsL hs).length = hs.length := by unfold rowsL; rw [List.length_map]
theorem ix_p0 {a b : D} : ixD (.tup [a, b]) (.int 0) = some a := rfl
theorem ix_p1 {a b : D} : ixD (.tup [a, b]) (.int 1) = some b := rfl
def capAt (caps : List Int) (k : Int) : Int := caps[k.toNat]?.getD 0
theorem isi_ii {j : Int} : isiD [.int j, .ty "int"] = some (.bl true) := rfl
theorem isi_ib {j : Int} : isiD [.int j, .ty "bool"] = some (.bl false) := rfl
theorem isi_tt {ds : List D} : isiD [.tup ds, .ty "tuple"] = some (.bl true) := rfl
theorem isi_ll {ds : List D} : isiD [.lst ds, .ty "list"] = some (.bl true) := rfl
theorem is_integer_call (j : Int) : (g_law_is_integer [.int j]).map Wd.d = some (.bl true) := rfl
/-! ### held pairs -/
end Zc
end

section
set_option Elab.async false
set_option linter.all false
set_option maxRecDepth 100000
set_option autoImplicit false
set_option maxHeartbeats 2000000
/-! Values laid out as data: ==, in, count. -/
namespace Zk
open PySem L2
structure Enc {α : Type} [DecidableEq α] (f : α → D) (p : α → PyData) (k : Nat) : Prop where
  to : ∀ a, toP (f a) = some (p a)
  eqv : ∀ a b, PyData.eqv (p a) (p b) = decide (a = b)
  lay : ∀ a, (p a).canLay0 = true
  dep : ∀ a, (p a).depth ≤ k
section
variable {α : Type} [DecidableEq α] {f : α → D} {p : α → PyData} {k : Nat}
theorem Enc.tos (e : Enc f p k) : ∀ xs : List α, toPs (xs.map f) = some (xs.map p)
  | [] => rfl
  | x :: xs => by
    show (toP (f x)).bind (fun q => (toPs (xs.map f)).map (q :: ·)) = _
    rw [e.to, e.tos xs]
    rfl
theorem Enc.lays (e : Enc f p k) : ∀ xs : List α, PyData.canLayAll0 (xs.map p) = true
  | [] => rfl
  | x :: xs => by
    show PyData.canLayAll0 (p x :: xs.map p) = true
    unfold PyData.canLayAll0
    rw [e.lay, e.lays xs]
    rfl
theorem Enc.deps (e : Enc f p k) : ∀ xs : List α, PyData.depthAll (xs.map p) ≤ k
  | [] => Nat.zero_le _
  | x :: xs => by
    show PyData.depthAll (p x :: xs.map p) ≤ k
    unfold PyData.depthAll
    exact Nat.max_le.mpr ⟨e.dep x, e.deps xs⟩
theorem Enc.eqvs (e : Enc f p k) : ∀ xs ys : List α, PyData.eqvAll (xs.map p) (ys.map p) = decide (xs = ys)
  | [], [] => by simp [PyData.eqvAll]
  | [], y :: ys => by simp [PyData.eqvAll]
  | x :: xs, [] => by simp [PyData.eqvAll]
  | x :: xs, y :: ys => by
    show PyData.eqvAll (p x :: xs.map p) (p y :: ys.map p) = _
    unfold PyData.eqvAll
    rw [e.eqv, e.eqvs xs ys]
    by_cases h : x = y <;> by_cases h2 : xs = ys <;> simp [h, h2]
theorem Enc.lst (e : Enc f p k) : Enc (fun xs : List α => D.lst (xs.map f)) (fun xs => PyData.list (xs.map p)) (k + 1) where
  to xs := by
    show (toPs (xs.map f)).map PyData.list = _
    rw [e.tos]
    rfl
  eqv xs ys := by
    show PyData.eqv (.list (xs.map p)) (.list (ys.map p)) = _
    unfold PyData.eqv
    exact e.eqvs xs ys
  lay xs := by
    show (PyData.list (xs.map p)).canLay0 = true
    unfold PyData.canLay0
    exact e.lays xs
  dep xs := by
    show (PyData.list (xs.map p)).depth ≤ k + 1
    unfold PyData.depth
    have := e.deps xs
    omega
theorem Enc.tup (e : Enc f p k) : Enc (fun xs : List α => D.tup (xs.map f)) (fun xs => PyData.tuple (xs.map p)) (k + 1) where
  to xs := by
    show (toPs (xs.map f)).map PyData.tuple = _
    rw [e.tos]
    rfl
  eqv xs ys := by
    show PyData.eqv (.tuple (xs.map p)) (.tuple (ys.map p)) = _
    unfold PyData.eqv
    exact e.eqvs xs ys
  lay xs := by
    show (PyData.tuple (xs.map p)).canLay0 = true
    unfold PyData.canLay0
    exact e.lays xs
  dep xs := by
    show (PyData.tuple (xs.map p)).depth ≤ k + 1
    unfold PyData.depth
    have := e.deps xs
    omega
theorem Enc.shaped (e : Enc f p k) (hk : k ≤ 64) (a : α) : SeqAt.shaped (p a) = true := by
  unfold SeqAt.shaped
  rw [e.lay, decide_eq_true (Nat.le_trans (e.dep a) hk)]
  rfl
theorem Enc.small (e : Enc f p k) (hk : k ≤ 60) (a : α) : small (p a) = true := by
  unfold Zk.small
  rw [e.lay, decide_eq_true (Nat.le_trans (e.dep a) hk)]
  rfl
theorem Enc.eqB (e : Enc f p k) (hk : k ≤ 64) (a b : α) : eqB (f a) (f b) = some (decide (a = b)) := by
  unfold Zk.eqB
  rw [e.to, e.to, Option.bind_some, Option.bind_some, e.shaped hk, e.shaped hk, e.eqv]
  rfl
theorem Enc.eqD (e : Enc f p k) (hk : k ≤ 64) (a b : α) : eqD (f a) (f b) = some (.bl (decide (a = b))) := by
  unfold Zk.eqD
  rw [e.eqB hk]
  rfl
theorem Enc.neD (e : Enc f p k) (hk : k ≤ 64) (a b : α) : neD (f a) (f b) = some (.bl (!decide (a = b))) := by
  unfold Zk.neD
  rw [e.eqB hk]
  rfl
theorem Enc.any (e : Enc f p k) (xs : List α) (a : α) : ((xs.map p).any fun z => PyData.eqv z (p a)) = decide (a ∈ xs) := by
  rw [List.any_map]
  have e1 : ((fun z => PyData.eqv z (p a)) ∘ p) = fun b => decide (b = a) := by
    funext b
    exact e.eqv b a
  rw [e1, Bool.eq_iff_iff, List.any_eq_true, decide_eq_true_iff]
  exact ⟨fun ⟨b, h1, h2⟩ => of_decide_eq_true h2 ▸ h1, fun h => ⟨a, h, decide_eq_true rfl⟩⟩
theorem Enc.inL (e : Enc f p k) (hk : k ≤ 60) (a : α) (xs : List α) [di : Decidable (a ∈ xs)] : inPD (f a) (.lst (xs.map f)) = some (.bl (decide (a ∈ xs))) := by
  show ((toP (f a)).bind fun d => (toPs (xs.map f)).bind fun ps => if (Zk.small d && PyData.canLayAll0 ps) = true then some (ps.any fun z => PyData.eqv z d) else none).map D.bl = _
  rw [e.to, e.tos, Option.bind_some, Option.bind_some, e.small hk, e.lays, e.any]
  exact congrArg (fun b => some (D.bl b)) (decide_eq_decide.mpr Iff.rfl)
theorem Enc.ninL (e : Enc f p k) (hk : k ≤ 60) (a : α) (xs : List α) [di : Decidable (a ∈ xs)] : ninPD (f a) (.lst (xs.map f)) = some (.bl (!decide (a ∈ xs))) := by
  show ((toP (f a)).bind fun d => (toPs (xs.map f)).bind fun ps => if (Zk.small d && PyData.canLayAll0 ps) = true then some (ps.any fun z => PyData.eqv z d) else none).map (fun b => D.bl (!b)) = _
  rw [e.to, e.tos, Option.bind_some, Option.bind_some, e.small hk, e.lays, e.any]
  exact congrArg (fun b => some (D.bl (!b))) (decide_eq_decide.mpr Iff.rfl)
theorem Enc.count (e : Enc f p k) (hk : k ≤ 60) (a : α) (xs : List α) [BEq α] [LawfulBEq α] : countD (.lst (xs.map f)) (f a) = some (.int ((xs.count a : Nat) : Int)) := by
  show ((toP (f a)).bind fun d => (toPs (xs.map f)).bind fun ps => if (Zk.small d && PyData.canLayAll0 ps) = true then some (D.int ((ps.countP fun z => PyData.eqv z d : Nat) : Int)) else none) = _
  rw [e.to, e.tos, Option.bind_some, Option.bind_some, e.small hk, e.lays, List.countP_map]
  have e1 : ((fun z => PyData.eqv z (p a)) ∘ p) = fun b => b == a := by
    funext b
    show PyData.eqv (p b) (p a) = _
    rw [e.eqv]
    rw [Bool.eq_iff_iff]; simp
  rw [e1]
  rfl
end
theorem encInt : Enc D.int PyData.int 1 where
  to _ := rfl
  eqv a b := by simp only [PyData.eqv]; rw [Bool.eq_iff_iff]; simp
  lay _ := rfl
  dep _ := by simp [PyData.depth]
/-- a pair of two things -/
theorem Enc.two {α β : Type} [DecidableEq α] [DecidableEq β] {f : α → D} {p : α → PyData} {f' : β → D} {p' : β → PyData} {k : Nat} (e : Enc f p k) (e' : Enc f' p' k) :
    Enc (fun x : α × β => D.tup [f x.1, f' x.2]) (fun x => PyData.tuple [p x.1, p' x.2]) (k + 1) where
  to x := by
    show ((toP (f x.1)).bind fun q => ((toP (f' x.2)).bind fun q' => some [q']).map (q :: ·)).map PyData.tuple = _
    rw [e.to, e'.to]
    rfl
  eqv x y := by
    show PyData.eqv (.tuple [p x.1, p' x.2]) (.tuple [p y.1, p' y.2]) = _
    simp only [PyData.eqv, PyData.eqvAll, e.eqv, e'.eqv]
    obtain ⟨a, b⟩ := x
    obtain ⟨c, d⟩ := y
    by_cases h : a = c <;> by_cases h2 : b = d <;> simp [h, h2]
  lay x := by
    show (PyData.tuple [p x.1, p' x.2]).canLay0 = true
    simp only [PyData.canLay0, PyData.canLayAll0, e.lay, e'.lay]
    rfl
  dep x := by
    show (PyData.tuple [p x.1, p' x.2]).depth ≤ k + 1
    simp only [PyData.depth, PyData.depthAll]
    have h1 := e.dep x.1
    have h2 := e'.dep x.2
    omega
/-- a thing or None -/
def optD {α : Type} (f : α → D) : Option α → D
  | none => .non
  | some a => f a
def optP {α : Type} (p : α → PyData) : Option α → PyData
  | none => .none
  | some a => p a
theorem Enc.opt {α : Type} [DecidableEq α] {f : α → D} {p : α → PyData} {k : Nat} (e : Enc f p k) (h1 : ∀ a, PyData.eqv .none (p a) = false) (h2 : ∀ a, PyData.eqv (p a) .none = false) : Enc (optD f) (optP p) (k + 1) where
  to x := by cases x with | none => rfl | some a => exact e.to a
  eqv x y := by
    cases x with
    | none => cases y with
      | none => simp [optP, PyData.eqv]
      | some b => exact (h1 b).trans (by simp)
    | some a => cases y with
      | none => exact (h2 a).trans (by simp)
      | some b => show PyData.eqv (p a) (p b) = _; rw [e.eqv]; simp
  lay x := by cases x with | none => rfl | some a => exact e.lay a
  dep x := by
    cases x with
    | none => simp [optP, PyData.depth]
    | some a => exact Nat.le_succ_of_le (e.dep a)
theorem Enc.mono {α : Type} [DecidableEq α] {f : α → D} {p : α → PyData} {k : Nat} (e : Enc f p k) {m : Nat} (h : k ≤ m) : Enc f p m := ⟨e.to, e.eqv, e.lay, fun a => Nat.le_trans (e.dep a) h⟩
/-- a comprehension over values laid out -/
theorem lc_filt {α : Type} {tg : DGF} {tt : DTF} {te : DF} {g : Gm} (f : α → D) (T : α → Bool) (F : α → D) : ∀ {xs : List α}, (∀ a, a ∈ xs → ∃ g1, tg (f a) g = some g1 ∧ tt g1 = some (T a) ∧ (T a = true → te g1 = some (F a))) → lcL tg tt te g (xs.map f) = some ((xs.filter T).map F)
  | [], _ => rfl
  | a :: xs, h => by
    obtain ⟨g1, h1, h2, h3⟩ := h a List.mem_cons_self
    have ih := lc_filt (tg := tg) (tt := tt) (te := te) (g := g) f T F (xs := xs) fun d hd => h d (List.mem_cons_of_mem _ hd)
    show lcL tg tt te g (f a :: xs.map f) = _
    unfold lcL
    rw [h1, Option.bind_some, h2, Option.bind_some, ih, List.filter_cons]
    cases ht : T a with
    | true => simp [h3 ht]
    | false => simp
end Zk
end

section
set_option Elab.async false
set_option linter.all false
set_option maxRecDepth 100000
set_option maxHeartbeats 2000000
/-! Items that differ, whatever they are. -/
namespace Zc
open PySem L2 Zk
instance {n : Nat} {h : List Int} : Decidable (Hold n h) := by unfold Hold; exact inferInstance
theorem asBls_map {α : Type} (xs : List α) (T : α → Bool) : asBls (xs.map fun x => D.bl (T x)) = some (xs.map T) := by
  induction xs with
  | nil => rfl
  | cons n ns ih => show (asBls (ns.map _)).map (T n :: ·) = _; rw [ih]; rfl
end Zc
end

section
set_option Elab.async false
set_option linter.all false
set_option maxRecDepth 100000
set_option autoImplicit false
set_option maxHeartbeats 2000000
/-! Total words for items, and steps that leave less to say. -/
namespace Zk
open PySem L2
/-- the item at a place -/
def at_ {α : Type} [Inhabited α] (xs : List α) (k : Int) : α := xs[k.toNat]?.getD default
section
variable {α : Type} [Inhabited α]
theorem at_eq {xs : List α} {k : Int} {m : Nat} {a : α} (e : k = (m : Int)) (h : xs[m]? = some a) : at_ xs k = a := by
  unfold at_
  rw [e, Int.toNat_natCast, h]; rfl
theorem at_get {xs : List α} {k : Int} (h0 : 0 ≤ k) (h : k < (xs.length : Nat)) : xs[k.toNat]? = some (at_ xs k) := by
  have hm : k.toNat < xs.length := by omega
  unfold at_
  rw [List.getElem?_eq_getElem hm]; rfl
theorem at_mem {xs : List α} {k : Int} (h0 : 0 ≤ k) (h : k < (xs.length : Nat)) : at_ xs k ∈ xs := List.mem_of_getElem? (at_get h0 h)
theorem ix_at {f : α → D} {xs : List α} {k : Int} (h0 : 0 ≤ k) (h : k < (xs.length : Nat)) : ixD (.lst (xs.map f)) (.int k) = some (f (at_ xs k)) := by
  have e := ix_l (ds := xs.map f) (m := k.toNat) (d := f (at_ xs k)) (by rw [List.getElem?_map, at_get h0 h]; rfl)
  rw [show ((k.toNat : Nat) : Int) = k by omega] at e
  exact e
theorem ix_atT {f : α → D} {xs : List α} {k : Int} (h0 : 0 ≤ k) (h : k < (xs.length : Nat)) : ixD (.tup (xs.map f)) (.int k) = some (f (at_ xs k)) := by
  have e := ix_t (ds := xs.map f) (m := k.toNat) (d := f (at_ xs k)) (by rw [List.getElem?_map, at_get h0 h]; rfl)
  rw [show ((k.toNat : Nat) : Int) = k by omega] at e
  exact e
end
theorem ix_atI {xs : List Int} {k : Int} (h0 : 0 ≤ k) (h : k < (xs.length : Nat)) : ixD (.lst (iL xs)) (.int k) = some (.int (at_ xs k)) := ix_at h0 h
theorem ix_atIT {xs : List Int} {k : Int} (h0 : 0 ≤ k) (h : k < (xs.length : Nat)) : ixD (.tup (iL xs)) (.int k) = some (.int (at_ xs k)) := ix_atT h0 h
theorem ix_atR {xs : List (List Int)} {k : Int} (h0 : 0 ≤ k) (h : k < (xs.length : Nat)) : ixD (.lst (rowsL xs)) (.int k) = some (.lst (iL (at_ xs k))) := ix_at h0 h
theorem ix_atRT {xs : List (List Int)} {k : Int} (h0 : 0 ≤ k) (h : k < (xs.length : Nat)) : ixD (.tup (rowsT xs)) (.int k) = some (.tup (iL (at_ xs k))) := ix_atT h0 h
theorem ix_lit2 {x0 x1 k : Int} (h0 : 0 ≤ k) (h : k < 2) : ixD (.tup [.int x0, .int x1]) (.int k) = some (.int (at_ [x0, x1] k)) := ix_atIT (xs := [x0, x1]) h0 h
theorem ix_lit3 {x0 x1 x2 k : Int} (h0 : 0 ≤ k) (h : k < 3) : ixD (.tup [.int x0, .int x1, .int x2]) (.int k) = some (.int (at_ [x0, x1, x2] k)) := ix_atIT (xs := [x0, x1, x2]) h0 h
theorem ix_lit4 {x0 x1 x2 x3 k : Int} (h0 : 0 ≤ k) (h : k < 4) : ixD (.tup [.int x0, .int x1, .int x2, .int x3]) (.int k) = some (.int (at_ [x0, x1, x2, x3] k)) := ix_atIT (xs := [x0, x1, x2, x3]) h0 h
theorem ix_lit5 {x0 x1 x2 x3 x4 k : Int} (h0 : 0 ≤ k) (h : k < 5) : ixD (.tup [.int x0, .int x1, .int x2, .int x3, .int x4]) (.int k) = some (.int (at_ [x0, x1, x2, x3, x4] k)) := ix_atIT (xs := [x0, x1, x2, x3, x4]) h0 h
theorem ix_lit6 {x0 x1 x2 x3 x4 x5 k : Int} (h0 : 0 ≤ k) (h : k < 6) : ixD (.tup [.int x0, .int x1, .int x2, .int x3, .int x4, .int x5]) (.int k) = some (.int (at_ [x0, x1, x2, x3, x4, x5] k)) := ix_atIT (xs := [x0, x1, x2, x3, x4, x5]) h0 h
theorem ix_lit7 {x0 x1 x2 x3 x4 x5 x6 k : Int} (h0 : 0 ≤ k) (h : k < 7) : ixD (.tup [.int x0, .int x1, .int x2, .int x3, .int x4, .int x5, .int x6]) (.int k) = some (.int (at_ [x0, x1, x2, x3, x4, x5, x6] k)) := ix_atIT (xs := [x0, x1, x2, x3, x4, x5, x6]) h0 h
theorem ix_lit8 {x0 x1 x2 x3 x4 x5 x6 x7 k : Int} (h0 : 0 ≤ k) (h : k < 8) : ixD (.tup [.int x0, .int x1, .int x2, .int x3, .int x4, .int x5, .int x6, .int x7]) (.int k) = some (.int (at_ [x0, x1, x2, x3, x4, x5, x6, x7] k)) := ix_atIT (xs := [x0, x1, x2, x3, x4, x5, x6, x7]) h0 h
theorem ix_lit9 {x0 x1 x2 x3 x4 x5 x6 x7 x8 k : Int} (h0 : 0 ≤ k) (h : k < 9) : ixD (.tup [.int x0, .int x1, .int x2, .int x3, .int x4, .int x5, .int x6, .int x7, .int x8]) (.int k) = some (.int (at_ [x0, x1, x2, x3, x4, x5, x6, x7, x8] k)) := ix_atIT (xs := [x0, x1, x2, x3, x4, x5, x6, x7, x8]) h0 h
theorem ix_lit10 {x0 x1 x2 x3 x4 x5 x6 x7 x8 x9 k : Int} (h0 : 0 ≤ k) (h : k < 10) : ixD (.tup [.int x0, .int x1, .int x2, .int x3, .int x4, .int x5, .int x6, .int x7, .int x8, .int x9]) (.int k) = some (.int (at_ [x0, x1, x2, x3, x4, x5, x6, x7, x8, x9] k)) := ix_atIT (xs := [x0, x1, x2, x3, x4, x5, x6, x7, x8, x9]) h0 h
theorem ix_lit11 {x0 x1 x2 x3 x4 x5 x6 x7 x8 x9 x10 k : Int} (h0 : 0 ≤ k) (h : k < 11) : ixD (.tup [.int x0, .int x1, .int x2, .int x3, .int x4, .int x5, .int x6, .int x7, .int x8, .int x9, .int x10]) (.int k) = some (.int (at_ [x0, x1, x2, x3, x4, x5, x6, x7, x8, x9, x10] k)) := ix_atIT (xs := [x0, x1, x2, x3, x4, x5, x6, x7, x8, x9, x10]) h0 h
theorem ix_lit12 {x0 x1 x2 x3 x4 x5 x6 x7 x8 x9 x10 x11 k : Int} (h0 : 0 ≤ k) (h : k < 12) : ixD (.tup [.int x0, .int x1, .int x2, .int x3, .int x4, .int x5, .int x6, .int x7, .int x8, .int x9, .int x10, .int x11]) (.int k) = some (.int (at_ [x0, x1, x2, x3, x4, x5, x6, x7, x8, x9, x10, x11] k)) := ix_atIT (xs := [x0, x1, x2, x3, x4, x5, x6, x7, x8, x9, x10, x11]) h0 h
theorem ix_lit13 {x0 x1 x2 x3 x4 x5 x6 x7 x8 x9 x10 x11 x12 k : Int} (h0 : 0 ≤ k) (h : k < 13) : ixD (.tup [.int x0, .int x1, .int x2, .int x3, .int x4, .int x5, .int x6, .int x7, .int x8, .int x9, .int x10, .int x11, .int x12]) (.int k) = some (.int (at_ [x0, x1, x2, x3, x4, x5, x6, x7, x8, x9, x10, x11, x12] k)) := ix_atIT (xs := [x0, x1, x2, x3, x4, x5, x6, x7, x8, x9, x10, x11, x12]) h0 h
theorem ix_lit14 {x0 x1 x2 x3 x4 x5 x6 x7 x8 x9 x10 x11 x12 x13 k : Int} (h0 : 0 ≤ k) (h : k < 14) : ixD (.tup [.int x0, .int x1, .int x2, .int x3, .int x4, .int x5, .int x6, .int x7, .int x8, .int x9, .int x10, .int x11, .int x12, .int x13]) (.int k) = some (.int (at_ [x0, x1, x2, x3, x4, x5, x6, x7, x8, x9, x10, x11, x12, x13] k)) := ix_atIT (xs := [x0, x1, x2, x3, x4, x5, x6, x7, x8, x9, x10, x11, x12, x13]) h0 h
theorem ix_lit15 {x0 x1 x2 x3 x4 x5 x6 x7 x8 x9 x10 x11 x12 x13 x14 k : Int} (h0 : 0 ≤ k) (h : k < 15) : ixD (.tup [.int x0, .int x1, .int x2, .int x3, .int x4, .int x5, .int x6, .int x7, .int x8, .int x9, .int x10, .int x11, .int x12, .int x13, .int x14]) (.int k) = some (.int (at_ [x0, x1, x2, x3, x4, x5, x6, x7, x8, x9, x10, x11, x12, x13, x14] k)) := ix_atIT (xs := [x0, x1, x2, x3, x4, x5, x6, x7, x8, x9, x10, x11, x12, x13, x14]) h0 h
theorem Below.at {ds sizes : List Int} (h : Below ds sizes) {k : Int} (s : Int) (h0 : 0 ≤ k) (h1 : sizes[k.toNat]? = some s) : 0 ≤ at_ ds k ∧ at_ ds k < s := by
  obtain ⟨d, e, h2⟩ := h.get h1
  rw [show at_ ds k = d from at_eq (m := k.toNat) (by omega) e]
  exact h2
theorem Below.len {ds sizes : List Int} (h : Below ds sizes) : ds.length = sizes.length := h.1
theorem apR1_any {k : Int} (h : k ≤ 1000000 ∧ -1000000 ≤ k) : apR1 (some [.int k]) = some (rngL 0 k.toNat) := if_pos h
/-! ### steps -/
section
variable {s u q : SF} {g : Gm} {C : Option Out → Prop}
end
/-! ### comprehensions -/
section
variable {it : DIF} {tg : DGF} {tt : DTF} {te : DF} {vs : List Nat} {g : Gm}
theorem dLc_filt {α : Type} (f : α → D) {xs : List α} {T : α → Bool} {F : α → D} (hf : free g vs = true) (hi : it g = some (xs.map f)) (hl : xs.length ≤ 100000)
    (h : ∀ a, a ∈ xs → ∃ g1, tg (f a) (wipeG g vs) = some g1 ∧ tt g1 = some (T a) ∧ (T a = true → te g1 = some (F a))) : dLc it tg tt te vs g = some (.lst ((xs.filter T).map F)) :=
  dLc_eq hf hi (by rw [List.length_map]; exact hl) (lc_filt f T F h)
theorem dLc_map {α : Type} (f : α → D) {xs : List α} {F : α → D} (hf : free g vs = true) (hi : it g = some (xs.map f)) (hl : xs.length ≤ 100000)
    (h : ∀ a, a ∈ xs → ∃ g1, tg (f a) (wipeG g vs) = some g1 ∧ te g1 = some (F a)) : dLc it tg dYes te vs g = some (.lst (xs.map F)) := by
  have e := dLc_filt (tt := dYes) f (T := fun _ => true) (F := F) hf hi hl (fun a ha => by obtain ⟨g1, h1, h2⟩ := h a ha; exact ⟨g1, h1, rfl, fun _ => h2⟩)
  rw [List.filter_eq_self.mpr fun _ _ => rfl] at e
  exact e
theorem rngL_map (n : Nat) : rngL 0 n = (List.range n).map fun i => D.int ((i : Nat) : Int) := by
  unfold rngL
  refine List.map_congr_left fun i _ => ?_
  rw [Int.zero_add]
theorem dLc_rngM {n : Nat} {F : Nat → D} (hf : free g vs = true) (hi : it g = some (rngL 0 n)) (hl : n ≤ 100000)
    (h : ∀ i, i < n → ∃ g1, tg (.int ((i : Nat) : Int)) (wipeG g vs) = some g1 ∧ te g1 = some (F i)) : dLc it tg dYes te vs g = some (.lst ((List.range n).map F)) :=
  dLc_map (fun i : Nat => D.int ((i : Nat) : Int)) hf (by rw [hi, rngL_map]) (by rw [List.length_range]; exact hl) fun i hi => h i (List.mem_range.mp hi)
end
theorem frz_wo {d : D} : (Wd.o d).frz = .v d := rfl
theorem frz_wv {d : D} : (Wd.v d).frz = .v d := rfl
theorem frz_kk {k : Option Wd} {g : Gm} : frzAll (k :: g) = k.map Wd.frz :: frzAll g := rfl
theorem wipeG_nil {g : Gm} : wipeG g [] = g := rfl
theorem wipeG_cons {g : Gm} {v : Nat} {vs : List Nat} : wipeG g (v :: vs) = (wipeG g vs).set v none := rfl
/-- ints of a range, some of them -/
def pickI (n : Nat) (T : Nat → Bool) : List Int := ((List.range n).filter T).map fun i => ((i : Nat) : Int)
theorem pickI_asc (n : Nat) (T : Nat → Bool) : Asc n (pickI n T) := by
  refine Asc.sub ?_
  unfold pickI rngI
  have : (List.range n).map (fun i => (0 : Int) + ((i : Nat) : Int)) = (List.range n).map fun i => ((i : Nat) : Int) := List.map_congr_left fun i _ => by rw [Int.zero_add]
  rw [this]
  exact List.Sublist.map _ (List.filter_sublist)
theorem pickI_mem {n : Nat} {T : Nat → Bool} {k : Int} : k ∈ pickI n T ↔ ∃ i : Nat, k = (i : Int) ∧ i < n ∧ T i = true := by
  unfold pickI
  rw [List.mem_map]
  constructor
  · rintro ⟨i, hi, rfl⟩
    rw [List.mem_filter, List.mem_range] at hi
    exact ⟨i, rfl, hi.1, hi.2⟩
  · rintro ⟨i, rfl, h1, h2⟩
    exact ⟨i, List.mem_filter.mpr ⟨List.mem_range.mpr h1, h2⟩, rfl⟩
/-! ### and, or, chains without cases -/
def orB (k : Bool) (o : Option Bool) : Option Bool := if k then some true else o
def andB (k : Bool) (o : Option Bool) : Option Bool := if k then o else some false
def orV (k : Bool) (o : Option D) : Option D := if k then some (.bl true) else o
def andV (k : Bool) (o : Option D) : Option D := if k then o else some (.bl false)
theorem orB_s {k k' : Bool} : orB k (some k') = some (k || k') := by cases k <;> rfl
theorem orB_t {o : Option Bool} : orB true o = some true := rfl
theorem orB_f {o : Option Bool} : orB false o = o := rfl
theorem andB_s {k k' : Bool} : andB k (some k') = some (k && k') := by cases k <;> rfl
theorem andB_t {o : Option Bool} : andB true o = o := rfl
theorem andB_f {o : Option Bool} : andB false o = some false := rfl
theorem orV_s {k k' : Bool} : orV k (some (.bl k')) = some (.bl (k || k')) := by cases k <;> rfl
theorem orV_t {o : Option D} : orV true o = some (.bl true) := rfl
theorem orV_f {o : Option D} : orV false o = o := rfl
theorem andV_s {k k' : Bool} : andV k (some (.bl k')) = some (.bl (k && k')) := by cases k <;> rfl
theorem andV_t {o : Option D} : andV true o = o := rfl
theorem andV_f {o : Option D} : andV false o = some (.bl false) := rfl
theorem apOr_b {k : Bool} {u : DTF} {g : Gm} : apOr (some k) u g = orB k (u g) := by cases k <;> rfl
theorem apAnd_b {k : Bool} {u : DTF} {g : Gm} : apAnd (some k) u g = andB k (u g) := by cases k <;> rfl
theorem apOrV_b {k : Bool} {u : DF} {g : Gm} : apOrV (some (.bl k)) u g = orV k (u g) := by cases k <;> rfl
theorem apAndV_b {k : Bool} {u : DF} {g : Gm} : apAndV (some (.bl k)) u g = andV k (u g) := by cases k <;> rfl
theorem apCh_b {k : Bool} {f' : D → D → Option D} {y : D} {c : DF} {g : Gm} : apCh f' y c g (some (.bl k)) = andV k (ap2 f' (some y) (c g)) := by cases k <;> rfl
def apPkO : Option D → Option D := fun x => match x with
  | some (.lst ds) => if ds.all D.flat then some (.lst ds) else none
  | _ => none
theorem peekO_a {a : DF} {g : Gm} : peekO a g = apPkO (a (frzAll g)) := rfl
theorem apPkO_i {xs : List Int} : apPkO (some (.lst (iL xs))) = some (.lst (iL xs)) := by
  unfold apPkO iL
  exact if_pos (by rw [List.all_map]; exact List.all_eq_true.mpr fun _ _ => rfl)
end Zk
end

section
set_option Elab.async false
set_option linter.all false
set_option maxRecDepth 100000
set_option maxHeartbeats 2000000
/-! The laws' own functions on pairs: rooms, counts, held pairs, dealings. -/
namespace Zc
open PySem L2 Zk
abbrev Pr := Int × Int
def prD (x : Pr) : D := .tup [.int x.1, .int x.2]
abbrev opD : Option Pr → D := optD prD
def stD (s : Int × Pr) : D := .tup [.int s.1, prD s.2]
def prP (x : Pr) : PyData := .tuple [.int x.1, .int x.2]
abbrev opP : Option Pr → PyData := optP prP
theorem encPr : Enc prD prP 2 := encInt.two encInt
theorem encOp : Enc opD opP 3 := encPr.opt (fun a => by simp [prP, PyData.eqv]) (fun a => by simp [prP, PyData.eqv])
theorem encSt : Enc stD (fun s => .tuple [.int s.1, prP s.2]) 3 := (encInt.mono (by decide)).two encPr
theorem eq_op_op (a b : Option Pr) : eqD (opD a) (opD b) = some (.bl (decide (a = b))) := encOp.eqD (by decide) a b
theorem eq_op_pr (a : Option Pr) (q : Pr) : eqD (opD a) (prD q) = some (.bl (decide (a = some q))) := encOp.eqD (by decide) a (some q)
theorem eq_pr_op (a : Option Pr) (q : Pr) : eqD (prD q) (opD a) = some (.bl (decide (some q = a))) := encOp.eqD (by decide) (some q) a
theorem eq_pr_pr (p q : Pr) : eqD (prD p) (prD q) = some (.bl (decide (p = q))) := encPr.eqD (by decide) p q
theorem ne_op_op (a b : Option Pr) : neD (opD a) (opD b) = some (.bl (!decide (a = b))) := encOp.neD (by decide) a b
theorem ne_op_pr (a : Option Pr) (q : Pr) : neD (opD a) (prD q) = some (.bl (!decide (a = some q))) := encOp.neD (by decide) a (some q)
theorem ne_pr_op (a : Option Pr) (q : Pr) : neD (prD q) (opD a) = some (.bl (!decide (some q = a))) := encOp.neD (by decide) (some q) a
theorem ne_pr_pr (p q : Pr) : neD (prD p) (prD q) = some (.bl (!decide (p = q))) := encPr.neD (by decide) p q
theorem isnt_op (o : Option Pr) : isntD (opD o) .non = some (.bl (!decide (o = none))) := by cases o <;> rfl
theorem is_op (o : Option Pr) : isD (opD o) .non = some (.bl (decide (o = none))) := by cases o <;> rfl
theorem prD_eq (a b : Int) : D.tup [.int a, .int b] = prD (a, b) := rfl
theorem pr_0 (q : Pr) : ixD (prD q) (.int 0) = some (.int q.1) := rfl
theorem pr_1 (q : Pr) : ixD (prD q) (.int 1) = some (.int q.2) := rfl
theorem st_0 (s : Int × Pr) : ixD (stD s) (.int 0) = some (.int s.1) := rfl
theorem st_1 (s : Int × Pr) : ixD (stD s) (.int 1) = some (prD s.2) := rfl
theorem inP_pr (q : Pr) (xs : List Pr) : inPD (prD q) (.lst (xs.map prD)) = some (.bl (decide (q ∈ xs))) := encPr.inL (by decide) q xs
theorem ninP_pr (q : Pr) (xs : List Pr) : ninPD (prD q) (.lst (xs.map prD)) = some (.bl (!decide (q ∈ xs))) := encPr.ninL (by decide) q xs
theorem nin_l {ns : List Int} {k : Int} : ninD (.int k) (.lst (iL ns)) = some (.bl (!ns.contains k)) := by
  show (if ((D.int k).flat4 && (iL ns).all D.flat4) = true then some ((iL ns).any fun z => eqF z (.int k)) else none).map (fun b => D.bl (!b)) = _
  rw [flat4_iL, any_iL]
  rfl
theorem isi_prt (q : Pr) : isiD [prD q, .ty "tuple"] = some (.bl true) := rfl
theorem len_pr (q : Pr) : lenD [prD q] = some (.int 2) := rfl
theorem op_some (q : Pr) : opD (some q) = prD q := rfl
def roomOf (caps : List Int) (q : Pr) : Int := if Zc.capAt caps q.2 < Zc.capAt caps q.1 then Zc.capAt caps q.2 else Zc.capAt caps q.1
def InR (caps : List Int) (q : Pr) : Prop := (0 ≤ q.1 ∧ q.1 < (caps.length : Nat)) ∧ (0 ≤ q.2 ∧ q.2 < (caps.length : Nat))
/-- the pairs of a row that have room -/
def heldP (caps : List Int) : List Int → List Pr
  | [] => []
  | a :: r => ((r.filter fun b => decide (0 < roomOf caps (a, b))).map fun b => (a, b)) ++ heldP caps r
theorem heldP_mem {caps : List Int} {n : Nat} : ∀ {h : List Int}, Asc n h → ∀ q : Pr, q ∈ heldP caps h ↔ q.1 ∈ h ∧ q.2 ∈ h ∧ q.1 < q.2 ∧ 0 < roomOf caps q
  | [], _, q => by simp [heldP]
  | a :: r, ha, q => by
    obtain ⟨x, y⟩ := q
    have h2 := List.pairwise_cons.mp ha.1
    have ih := heldP_mem (caps := caps) (n := n) (h := r) ⟨h2.2, fun k hk => ha.2 k (List.mem_cons_of_mem _ hk)⟩ (x, y)
    unfold heldP
    rw [List.mem_append, ih, List.mem_map]
    simp only [List.mem_filter, decide_eq_true_eq, List.mem_cons, Prod.mk.injEq]
    constructor
    · rintro (⟨b, ⟨hb, hp⟩, rfl, rfl⟩ | ⟨h1, h3, h4, h5⟩)
      · exact ⟨.inl rfl, .inr hb, h2.1 _ hb, hp⟩
      · exact ⟨.inr h1, .inr h3, h4, h5⟩
    · rintro ⟨h1 | h1, h3 | h3, h4, h5⟩
      · subst h1; subst h3; omega
      · subst h1; exact .inl ⟨y, ⟨h3, h5⟩, rfl, rfl⟩
      · subst h3; have := h2.1 x h1; omega
      · exact .inr ⟨h1, h3, h4, h5⟩
theorem held_in {caps h : List Int} (ha : Asc caps.length h) {q : Pr} (hq : q ∈ heldP caps h) : InR caps q := by
  have e := (heldP_mem ha q).mp hq
  exact ⟨ha.2 _ e.1, ha.2 _ e.2.1⟩
end Zc
end

section
set_option Elab.async false
set_option linter.all false
set_option maxRecDepth 100000
set_option maxHeartbeats 2000000
/-! Dealings, as the laws judge them. -/
namespace Zc
open PySem L2 Zk
/-- a row lies below another by its pieces -/
structure IsDeal (caps : List Int) (hs : List (List Int)) (dl : List (Option Pr)) : Prop where
  len : dl.length = hs.length
  held : ∀ (p : Nat) (q : Pr), dl[p]? = some (some q) → q.1 < q.2 ∧ q.1 ∈ at_ hs p ∧ q.2 ∈ at_ hs p
  room : ∀ q : Pr, some q ∈ dl → ((dl.count (some q) : Nat) : Int) ≤ roomOf caps q
end Zc
end

section
set_option Elab.async false
set_option linter.all false
set_option maxRecDepth 100000
set_option maxHeartbeats 2000000
/-! Changing what is laid out; dealings and pools that the laws draw. -/
namespace Zc
open PySem L2 Zk
theorem setI_at {α : Type} {f : α → D} {a : α} {xs : List α} {k : Int} {i : Nat} {g : Gm} {d : D} (e : d = f a) (h0 : 0 ≤ k) (h : k < (xs.length : Nat)) :
    apSetI (some d) (some (.int k)) (some (.lst (xs.map f))) i g = some (.nx (g.set i (some (.o (.lst ((xs.set k.toNat a).map f)))))) := by
  have e1 := apSetI_some (d := d) (ds := xs.map f) (i := i) (g := g) (j := k.toNat) (by rw [List.length_map]; omega)
  rw [show ((k.toNat : Nat) : Int) = k by omega] at e1
  rw [e1, e, List.map_set]
section
variable {k x : Int} {i : Nat} {g : Gm} {q : Pr} {o : Option Pr}
theorem setI_i {xs : List Int} (h0 : 0 ≤ k) (h : k < (xs.length : Nat)) : apSetI (some (.int x)) (some (.int k)) (some (.lst (iL xs))) i g = some (.nx (g.set i (some (.o (.lst (iL (xs.set k.toNat x))))))) := setI_at (f := D.int) rfl h0 h
theorem setI_p {xs : List (Option Pr)} (h0 : 0 ≤ k) (h : k < (xs.length : Nat)) : apSetI (some (prD q)) (some (.int k)) (some (.lst (xs.map opD))) i g = some (.nx (g.set i (some (.o (.lst ((xs.set k.toNat (some q)).map opD)))))) := setI_at (f := opD) rfl h0 h
theorem setI_o {xs : List (Option Pr)} (h0 : 0 ≤ k) (h : k < (xs.length : Nat)) : apSetI (some (opD o)) (some (.int k)) (some (.lst (xs.map opD))) i g = some (.nx (g.set i (some (.o (.lst ((xs.set k.toNat o).map opD)))))) := setI_at (f := opD) rfl h0 h
theorem setI_n {xs : List (Option Pr)} (h0 : 0 ≤ k) (h : k < (xs.length : Nat)) : apSetI (some .non) (some (.int k)) (some (.lst (xs.map opD))) i g = some (.nx (g.set i (some (.o (.lst ((xs.set k.toNat none).map opD)))))) := setI_at (f := opD) (a := none) rfl h0 h
theorem snoc_i {xs : List Int} : iL xs ++ [D.int x] = iL (xs ++ [x]) := by unfold iL; rw [List.map_append]; rfl
theorem snoc_r {hs : List (List Int)} {h : List Int} : rowsL hs ++ [.lst (iL h)] = rowsL (hs ++ [h]) := rowsL_snoc
theorem snoc_p {xs : List (Option Pr)} : xs.map opD ++ [prD q] = (xs ++ [some q]).map opD := by rw [List.map_append]; rfl
theorem snoc_n {xs : List (Option Pr)} : xs.map opD ++ [D.non] = (xs ++ [none]).map opD := by rw [List.map_append]; rfl
theorem snoc_o {xs : List (Option Pr)} : xs.map opD ++ [opD o] = (xs ++ [o]).map opD := by rw [List.map_append]; rfl
theorem snoc_pp {xs : List Pr} : xs.map prD ++ [prD q] = (xs ++ [q]).map prD := by rw [List.map_append]; rfl
theorem snoc_s {xs : List (Int × Pr)} : xs.map stD ++ [D.tup [.int x, prD q]] = (xs ++ [(x, q)]).map stD := by rw [List.map_append]; rfl
theorem eq_ol {xs ys : List (Option Pr)} : eqD (.lst (xs.map opD)) (.lst (ys.map opD)) = some (.bl (decide (xs = ys))) := encOp.lst.eqD (by decide) xs ys
theorem ne_ol {xs ys : List (Option Pr)} : neD (.lst (xs.map opD)) (.lst (ys.map opD)) = some (.bl (!decide (xs = ys))) := encOp.lst.neD (by decide) xs ys
theorem eq_pl {xs ys : List Pr} : eqD (.lst (xs.map prD)) (.lst (ys.map prD)) = some (.bl (decide (xs = ys))) := encPr.lst.eqD (by decide) xs ys
theorem ne_pl {xs ys : List Pr} : neD (.lst (xs.map prD)) (.lst (ys.map prD)) = some (.bl (!decide (xs = ys))) := encPr.lst.neD (by decide) xs ys
theorem eq_sl {xs ys : List (Int × Pr)} : eqD (.lst (xs.map stD)) (.lst (ys.map stD)) = some (.bl (decide (xs = ys))) := encSt.lst.eqD (by decide) xs ys
theorem ne_sl {xs ys : List (Int × Pr)} : neD (.lst (xs.map stD)) (.lst (ys.map stD)) = some (.bl (!decide (xs = ys))) := encSt.lst.neD (by decide) xs ys
theorem eq_il {xs ys : List Int} : eqD (.lst (iL xs)) (.lst (iL ys)) = some (.bl (decide (xs = ys))) := encInt.lst.eqD (by decide) xs ys
theorem ne_il {xs ys : List Int} : neD (.lst (iL xs)) (.lst (iL ys)) = some (.bl (!decide (xs = ys))) := encInt.lst.neD (by decide) xs ys
theorem eq_rl {xs ys : List (List Int)} : eqD (.lst (rowsL xs)) (.lst (rowsL ys)) = some (.bl (decide (xs = ys))) := encInt.lst.lst.eqD (by decide) xs ys
theorem ne_rl {xs ys : List (List Int)} : neD (.lst (rowsL xs)) (.lst (rowsL ys)) = some (.bl (!decide (xs = ys))) := encInt.lst.lst.neD (by decide) xs ys
theorem eq_il1 {xs : List Int} : eqD (.lst (iL xs)) (.lst [.int x]) = some (.bl (decide (xs = [x]))) := eq_il (ys := [x])
theorem isi_bb {b : Bool} : isiD [.bl b, .ty "bool"] = some (.bl true) := rfl
theorem eq_bb {a b : Bool} : eqD (.bl a) (.bl b) = some (.bl (a == b)) := rfl
theorem ne_bb {a b : Bool} : neD (.bl a) (.bl b) = some (.bl (!(a == b))) := rfl
end
/-! ### rich pools -/
/-! ### pools with many seats -/
theorem snoc_get {α : Type} {xs : List α} {x y : α} {p : Nat} (h : (xs ++ [x])[p]? = some y) : xs[p]? = some y ∨ (p = xs.length ∧ y = x) := by
  by_cases hp : p < xs.length
  · rw [List.getElem?_append_left hp] at h; exact .inl h
  · rw [List.getElem?_append_right (by omega)] at h
    by_cases h0 : p - xs.length = 0
    · rw [h0] at h
      cases h
      exact .inr ⟨by omega, rfl⟩
    · rw [List.getElem?_eq_none (by simp; omega)] at h; cases h
end Zc
end

section
set_option Elab.async false
set_option linter.all false
set_option maxRecDepth 100000
set_option maxHeartbeats 2000000
/-! Walks as the laws count them, taken. -/
namespace Zc
open PySem L2 Zk
abbrev Steps := List (Int × Pr)
def StepOk (caps : List Int) (hs : List (List Int)) (dl : List (Option Pr)) (l : Option Pr) (u : List Int) (s : Int × Pr) : Prop :=
  (0 ≤ s.1 ∧ s.1 < (hs.length : Nat)) ∧ s.1 ∉ u ∧ dl[s.1.toNat]? = some l ∧ s.2 ∈ heldP caps (hs[s.1.toNat]?.getD []) ∧ some s.2 ≠ l
instance {caps : List Int} {hs : List (List Int)} {dl : List (Option Pr)} {l : Option Pr} {u : List Int} {s : Int × Pr} : Decidable (StepOk caps hs dl l u s) := by unfold StepOk; exact inferInstance
def walkB (caps : List Int) (hs : List (List Int)) (dl : List (Option Pr)) : Option Pr → List Int → Steps → Option (Option Pr)
  | l, _, [] => some l
  | l, u, s :: r => if StepOk caps hs dl l u s then walkB caps hs dl (some s.2) (u ++ [s.1]) r else none
def dueB (caps : List Int) (hs : List (List Int)) (dl : List (Option Pr)) (sts : Steps) : Bool := match walkB caps hs dl none [] sts with
  | some (some q) => decide (((dl.count (some q) : Nat) : Int) < roomOf caps q)
  | _ => false
structure DealOk (caps : List Int) (hs : List (List Int)) (dl : List (Option Pr)) : Prop where
  len : dl.length = hs.length
  held : ∀ (p : Nat) (q : Pr), dl[p]? = some (some q) → ∃ h, hs[p]? = some h ∧ q ∈ heldP caps h
  room : ∀ q : Pr, dl.count (some q) = 0 ∨ ((dl.count (some q) : Nat) : Int) ≤ roomOf caps q
theorem walkB_yes {caps : List Int} {hs : List (List Int)} {dl : List (Option Pr)} {l : Option Pr} {u : List Int} {s : Int × Pr} {r : Steps} (h : StepOk caps hs dl l u s) : walkB caps hs dl l u (s :: r) = walkB caps hs dl (some s.2) (u ++ [s.1]) r := if_pos h
def one (a b : Option Pr) : Nat := if a = b then 1 else 0
section
variable {caps : List Int} {hs : List (List Int)} {dl : List (Option Pr)}
end
theorem DealOk.of {caps : List Int} {hs : List (List Int)} {m : Nat} (ok : PoolOk caps hs m) {dl : List (Option Pr)} (d : IsDeal caps hs dl) (hr : ∀ q, some q ∈ dl → 0 < roomOf caps q) : DealOk caps hs dl where
  len := d.len
  held p q e := by
    have hp : p < hs.length := by rw [← d.len]; exact (List.getElem?_eq_some_iff.mp e).1
    have h1 := d.held p q e
    have e2 : hs[p]? = some (at_ hs p) := by have := at_get (xs := hs) (k := (p : Int)) (by omega) (by omega); rw [Int.toNat_natCast] at this; exact this
    exact ⟨_, e2, (heldP_mem (ok.asc _ (List.mem_of_getElem? e2)) q).mpr ⟨h1.2.1, h1.2.2, h1.1, hr q (List.mem_of_getElem? e)⟩⟩
  room q := by
    by_cases h : some q ∈ dl
    · exact .inr (d.room q h)
    · exact .inl (List.count_eq_zero.mpr h)
end Zc
end

section
set_option Elab.async false
set_option linter.all false
set_option maxRecDepth 100000
set_option maxHeartbeats 2000000
/-! The search for a walk: its tree, its waiting list, what stands when it fails. -/
namespace Zc
open PySem L2 Zk
/-! ### while -/
/-! ### keys -/
def prK (q : Pr) : List Key := [.inl q.1, .inl q.2]
theorem prK_eq {q r : Pr} : prK q = prK r ↔ q = r := ⟨fun h => by
  unfold prK at h
  injection h with h1 h2
  injection h1 with h1
  injection h2 with h2 h3
  injection h2 with h2
  exact Prod.ext h1 h2, fun h => by rw [h]⟩
abbrev Tk := List (Pr × Int)
def tkD (tk : Tk) : List (List Key × D) := tk.map fun e => (prK e.1, D.int e.2)
theorem getK_tk (q : Pr) : ∀ tk : Tk, getK (tkD tk) (prK q) = (tk.find? fun e => decide (e.1 = q)).map fun e => D.int e.2
  | [] => rfl
  | e :: tk => by
    have ih := getK_tk q tk
    unfold getK tkD at ih ⊢
    rw [List.map_cons, List.find?_cons, List.find?_cons]
    by_cases h : e.1 = q
    · rw [decide_eq_true (show (prK e.1, D.int e.2).1 = prK q by rw [h]), decide_eq_true h]; rfl
    · rw [decide_eq_false (show ¬ (prK e.1, D.int e.2).1 = prK q from fun z => h (prK_eq.mp z)), decide_eq_false h]; exact ih
def keys (tk : Tk) : List Pr := tk.map (·.1)
theorem keys_get {tk : Tk} {j : Nat} {q : Pr} {p : Int} (h : tk[j]? = some (q, p)) : (keys tk)[j]? = some q := by unfold keys; rw [List.getElem?_map, h]; rfl
theorem keys_inj {tk : Tk} (n : (keys tk).Nodup) {j l : Nat} {q : Pr} {p p' : Int} (h : tk[j]? = some (q, p)) (h' : tk[l]? = some (q, p')) : j = l :=
  (List.getElem?_inj (List.getElem?_eq_some_iff.mp (keys_get h)).1 n).mp ((keys_get h).trans (keys_get h').symm)
/-! ### who sits where -/
def seatsOf : Nat → List (Option Pr) → Pr → List Int
  | _, [], _ => []
  | n, o :: r, q => if o = some q then (n : Int) :: seatsOf (n + 1) r q else seatsOf (n + 1) r q
theorem seatsOf_cons (n : Nat) (o : Option Pr) (r : List (Option Pr)) (q : Pr) : seatsOf n (o :: r) q = if o = some q then (n : Int) :: seatsOf (n + 1) r q else seatsOf (n + 1) r q := rfl
theorem seatsOf_mem {q : Pr} {x : Int} : ∀ {dl : List (Option Pr)} {n : Nat}, x ∈ seatsOf n dl q ↔ ∃ p : Nat, x = ((n + p : Nat) : Int) ∧ dl[p]? = some (some q)
  | [], n => by unfold seatsOf; simp
  | o :: r, n => by
    have ih := seatsOf_mem (q := q) (x := x) (dl := r) (n := n + 1)
    have key : (∃ p : Nat, x = ((n + p : Nat) : Int) ∧ (o :: r)[p]? = some (some q)) ↔ (x = (n : Int) ∧ o = some q) ∨ ∃ p : Nat, x = ((n + 1 + p : Nat) : Int) ∧ r[p]? = some (some q) := by
      constructor
      · rintro ⟨p, h1, h2⟩
        cases p with
        | zero => exact .inl ⟨by simpa using h1, by simpa using h2⟩
        | succ p => exact .inr ⟨p, by rw [h1]; congr 1; omega, by simpa using h2⟩
      · rintro (⟨h1, h2⟩ | ⟨p, h1, h2⟩)
        · exact ⟨0, by simpa using h1, by simpa using h2⟩
        · exact ⟨p + 1, by rw [h1]; congr 1; omega, by simpa using h2⟩
    rw [key, ← ih, seatsOf_cons]
    split
    · rename_i h
      rw [List.mem_cons]
      simp [h]
    · rename_i h
      simp [h]
theorem seatsOf_nodup (q : Pr) : ∀ (dl : List (Option Pr)) (n : Nat), (seatsOf n dl q).Nodup
  | [], _ => List.nodup_nil
  | o :: r, n => by
    unfold seatsOf
    split
    · refine List.nodup_cons.mpr ⟨fun h => ?_, seatsOf_nodup q r (n + 1)⟩
      obtain ⟨p, h1, _⟩ := seatsOf_mem.mp h
      omega
    · exact seatsOf_nodup q r (n + 1)
def look (kvs : SeatL) (k : List Key) : List Int := ((kvs.find? fun kv => decide (kv.1 = k)).map (·.2)).getD []
/-- what pieces_by_pair answers -/
structure Seats (dl : List (Option Pr)) (kvs : List (List Key × D)) : Prop where
  at_ : ∀ q, (getK kvs (prK q)).getD (.lst []) = .lst (iL (seatsOf 0 dl q))
end Zc
end

section
set_option Elab.async false
set_option linter.all false
set_option maxRecDepth 100000
set_option maxHeartbeats 2000000
/-! The search for a walk, as the program writes it. -/
namespace Zc
open PySem L2 Zk
/-! ### the program -/
section
variable {g : Gm} {d e : D} {ds es : List D} {i : Nat} {q : Pr} {kvs : List (List Key × D)} {o : Option Wd} {a k : DF}
end
/-! ### the tree -/
section
variable {caps : List Int} {hs : List (List Int)} {dl : List (Option Pr)} {S : List Int}
structure Tree (caps : List Int) (hs : List (List Int)) (dl : List (Option Pr)) (S : List Int) (tk : Tk) : Prop where
  kn : (keys tk).Nodup
  tr : ∀ (j : Nat) (q : Pr) (p : Int), tk[j]? = some (q, p) → ∃ n : Nat, p = n ∧ n < hs.length ∧ q ∈ heldP caps (hs[n]?.getD []) ∧ ((dl[n]? = some none ∧ p ∈ S) ∨ ∃ (l : Nat) (q' : Pr) (p' : Int), dl[n]? = some (some q') ∧ tk[l]? = some (q', p') ∧ l < j)
/-- what walk_to holds: the walk's end wk, behind the pair o -/
structure Sfx (caps : List Int) (hs : List (List Int)) (dl : List (Option Pr)) (S : List Int) (tk : Tk) (q0 : Pr) (i : Nat) (o : Option Pr) (wk : Steps) : Prop where
  ln : wk.length = i
  wb : ∀ u : List Int, (∀ s ∈ wk, s.1 ∉ u) → walkB caps hs dl o u wk = some (some q0)
  hold : Hold hs.length (wk.map (·.1))
  top : o = none → ∃ s, wk.head? = some s ∧ s.1 ∈ S
  mid : ∀ q, o = some q → ∃ (j : Nat) (p : Int), tk[j]? = some (q, p) ∧ j + i < tk.length ∧ ∀ s ∈ wk, ∃ (m : Nat) (q' : Pr) (p' : Int), dl[s.1.toNat]? = some (some q') ∧ tk[m]? = some (q', p') ∧ j ≤ m
theorem Sfx.step {tk : Tk} (T : Tree caps hs dl S tk) {q0 : Pr} {i : Nat} {q : Pr} {wk : Steps} (h : Sfx caps hs dl S tk q0 i (some q) wk) :
    ∃ (j : Nat) (n : Nat) (l : Option Pr), tk[j]? = some (q, (n : Int)) ∧ dl[n]? = some l ∧ n < hs.length ∧ i < tk.length ∧ Sfx caps hs dl S tk q0 (i + 1) l (((n : Int), q) :: wk) := by
  obtain ⟨j, p, hj, hji, hm⟩ := h.mid q rfl
  obtain ⟨n, rfl, hn, hq, hor⟩ := T.tr j q p hj
  have fresh : ∀ l, dl[n]? = some l → (∀ q', l = some q' → ∃ (x : Nat) (p' : Int), tk[x]? = some (q', p') ∧ x < j) → ∀ s ∈ wk, s.1 ≠ (n : Int) := fun l hl hlt s hs' e => by
    obtain ⟨m, q', p', h1, h2, h3⟩ := hm s hs'
    rw [e, Int.toNat_natCast, hl] at h1
    obtain ⟨x, p2, h4, h5⟩ := hlt q' (Option.some.inj h1)
    have := keys_inj T.kn h2 h4
    omega
  have main : ∀ l, dl[n]? = some l → some q ≠ l → (∀ q', l = some q' → ∃ (x : Nat) (p' : Int), tk[x]? = some (q', p') ∧ x < j) → (l = none → (n : Int) ∈ S) → Sfx caps hs dl S tk q0 (i + 1) l (((n : Int), q) :: wk) := fun l hl hne hlt hnone => by
    have fr := fresh l hl hlt
    refine ⟨by rw [List.length_cons, h.ln], fun u hu => ?_, ⟨?_, ?_⟩, fun e => ⟨_, rfl, hnone e⟩, fun q' e => ?_⟩
    · have hok : StepOk caps hs dl l u ((n : Int), q) := ⟨⟨by show (0 : Int) ≤ (n : Int); omega, by show (n : Int) < _; omega⟩, hu _ List.mem_cons_self, by show dl[((n : Nat) : Int).toNat]? = _; rw [Int.toNat_natCast]; exact hl, by show q ∈ heldP caps (hs[((n : Nat) : Int).toNat]?.getD []); rw [Int.toNat_natCast]; exact hq, hne⟩
      rw [walkB_yes hok]
      refine h.wb _ fun s hs' z => ?_
      rcases List.mem_append.mp z with z | z
      · exact hu s (List.mem_cons_of_mem _ hs') z
      · exact fr s hs' (List.mem_singleton.mp z)
    · rw [List.map_cons]
      exact List.nodup_cons.mpr ⟨fun z => by obtain ⟨s, h1, h2⟩ := List.mem_map.mp z; exact fr s h1 h2, h.hold.1⟩
    · intro k hk
      rw [List.map_cons] at hk
      rcases List.mem_cons.mp hk with z | z
      · rw [z]; show 0 ≤ (n : Int) ∧ (n : Int) < _; omega
      · exact h.hold.2 k z
    · obtain ⟨x, p', h4, h5⟩ := hlt q' e
      refine ⟨x, p', h4, by omega, fun s hs' => ?_⟩
      rcases List.mem_cons.mp hs' with z | z
      · rw [z]
        exact ⟨x, q', p', by show dl[((n : Nat) : Int).toNat]? = _; rw [Int.toNat_natCast, hl, e], h4, Nat.le_refl _⟩
      · obtain ⟨m, q2, p2, h1, h2, h3⟩ := hm s z
        exact ⟨m, q2, p2, h1, h2, by omega⟩
  refine ⟨j, n, ?_⟩
  rcases hor with ⟨h1, h2⟩ | ⟨l, q', p', h1, h2, h3⟩
  · exact ⟨none, hj, h1, hn, by omega, main none h1 (by simp) (fun q' z => by cases z) fun _ => h2⟩
  · refine ⟨some q', hj, h1, hn, by omega, main (some q') h1 (fun z => ?_) (fun q2 z => by cases z; exact ⟨l, p', h2, h3⟩) fun z => by cases z⟩
    cases z
    have := keys_inj T.kn hj h2
    omega
theorem Tree.grow {tk : Tk} (T : Tree caps hs dl S tk) {q : Pr} {n : Nat} (hq : q ∉ keys tk) (hn : n < hs.length) (hh : q ∈ heldP caps (hs[n]?.getD [])) (hw : (dl[n]? = some none ∧ (n : Int) ∈ S) ∨ ∃ q', dl[n]? = some (some q') ∧ q' ∈ keys tk) :
    Tree caps hs dl S (tk ++ [(q, (n : Int))]) where
  kn := by
    unfold keys
    rw [List.map_append, List.nodup_append]
    exact ⟨T.kn, by simp, fun a ha b hb z => hq (by simp at hb; rw [← hb, ← z]; exact ha)⟩
  tr j q' p h := by
    rcases snoc_get h with h | ⟨h1, h2⟩
    · obtain ⟨m, e, h1, h2, h3⟩ := T.tr j q' p h
      refine ⟨m, e, h1, h2, h3.imp id ?_⟩
      rintro ⟨l, q2, p2, a1, a2, a3⟩
      exact ⟨l, q2, p2, a1, by rw [List.getElem?_append_left (List.getElem?_eq_some_iff.mp a2).1]; exact a2, a3⟩
    · cases h2
      refine ⟨n, rfl, hn, hh, hw.imp id ?_⟩
      rintro ⟨q2, a1, a2⟩
      obtain ⟨l, hl⟩ := List.mem_iff_getElem?.mp a2
      unfold keys at hl
      rw [List.getElem?_map] at hl
      cases e : tk[l]? with
      | none => rw [e] at hl; cases hl
      | some x =>
        rw [e] at hl
        obtain ⟨x1, x2⟩ := x
        cases hl
        have hlt := (List.getElem?_eq_some_iff.mp e).1
        exact ⟨l, _, x2, a1, by rw [List.getElem?_append_left hlt]; exact e, by omega⟩
/-- what the search holds between two turns -/
structure Bfs (caps : List Int) (hs : List (List Int)) (dl : List (Option Pr)) (S : List Int) (tk : Tk) (wl : List Int) : Prop where
  tree : Tree caps hs dl S tk
  wn : Hold hs.length wl
  wi : ∀ n : Nat, (n : Int) ∈ wl → (dl[n]? = some none ∧ (n : Int) ∈ S) ∨ ∃ q', dl[n]? = some (some q') ∧ q' ∈ keys tk
  full : ∀ q ∈ keys tk, roomOf caps q ≤ (dl.count (some q) : Nat) ∧ ∀ n : Nat, dl[n]? = some (some q) → (n : Int) ∈ wl
  st : ∀ n : Nat, (n : Int) ∈ S → dl[n]? = some none → (n : Int) ∈ wl
theorem Bfs.new (hS : Hold hs.length S) (hl : dl.length = hs.length) : Bfs caps hs dl S [] (S.filter fun p => decide (at_ dl p = none)) := by
  have ge : ∀ n : Nat, (n : Int) ∈ S → dl[n]? = some (at_ dl (n : Int)) := fun n h => by
    have := (hS.2 _ h).2
    have := at_get (xs := dl) (k := (n : Int)) (by omega) (by omega)
    rw [Int.toNat_natCast] at this
    exact this
  refine ⟨⟨List.nodup_nil, fun j q p h => by cases h⟩, ⟨hS.1.sublist List.filter_sublist, fun k hk => hS.2 k (List.mem_filter.mp hk).1⟩, fun n hn => .inl ?_, fun q h => (by cases h), fun n h1 h2 => List.mem_filter.mpr ⟨h1, ?_⟩⟩
  · obtain ⟨h1, h2⟩ := List.mem_filter.mp hn
    exact ⟨by rw [ge n h1, of_decide_eq_true h2], h1⟩
  · rw [ge n h1] at h2
    exact decide_eq_true (Option.some.inj h2)
theorem Bfs.more {tk : Tk} {wl : List Int} (b : Bfs caps hs dl S tk wl) (hl : dl.length = hs.length) {q : Pr} {n : Nat} (hq : q ∉ keys tk) (hn : (n : Int) ∈ wl) (hh : q ∈ heldP caps (hs[n]?.getD [])) (hf : roomOf caps q ≤ (dl.count (some q) : Nat)) :
    Bfs caps hs dl S (tk ++ [(q, (n : Int))]) (wl ++ seatsOf 0 dl q) := by
  have ks : ∀ x, x ∈ keys (tk ++ [(q, (n : Int))]) ↔ x ∈ keys tk ∨ x = q := fun x => by unfold keys; rw [List.map_append, List.mem_append]; simp
  have hnl : n < hs.length := by have := (b.wn.2 _ hn).2; omega
  have hsm : ∀ m : Nat, (m : Int) ∈ seatsOf 0 dl q ↔ dl[m]? = some (some q) := fun m => by
    rw [seatsOf_mem]
    constructor
    · rintro ⟨p, h1, h2⟩; rw [show m = p by omega]; exact h2
    · exact fun h => ⟨m, by omega, h⟩
  refine ⟨b.tree.grow hq hnl hh (b.wi n hn), ⟨?_, fun k hk => ?_⟩, fun m hm => ?_, fun q' h => ?_, fun m h1 h2 => List.mem_append_left _ (b.st m h1 h2)⟩
  · rw [List.nodup_append]
    refine ⟨b.wn.1, seatsOf_nodup q dl 0, fun x hx y hy z => ?_⟩
    rw [z] at hx
    obtain ⟨p, h1, h2⟩ := seatsOf_mem.mp hy
    rw [show (0 + p : Nat) = p by omega] at h1
    rw [h1] at hx
    rcases b.wi p hx with ⟨h3, _⟩ | ⟨q', h3, h4⟩
    · rw [h2] at h3; cases h3
    · rw [h2] at h3; cases h3; exact hq h4
  · rcases List.mem_append.mp hk with z | z
    · exact b.wn.2 k z
    · obtain ⟨p, h1, h2⟩ := seatsOf_mem.mp z
      have := (List.getElem?_eq_some_iff.mp h2).1
      omega
  · rcases List.mem_append.mp hm with z | z
    · exact (b.wi m z).imp id fun ⟨q', h1, h2⟩ => ⟨q', h1, (ks q').mpr (.inl h2)⟩
    · exact .inr ⟨q, (hsm m).mp z, (ks q).mpr (.inr rfl)⟩
  · rcases (ks q').mp h with z | z
    · exact ⟨(b.full q' z).1, fun m hm => List.mem_append_left _ ((b.full q' z).2 m hm)⟩
    · rw [z]
      exact ⟨hf, fun m hm => List.mem_append_right _ ((hsm m).mpr hm)⟩
/-- what stands when no walk is found -/
structure Stuck (caps : List Int) (hs : List (List Int)) (dl : List (Option Pr)) (S : List Int) (K : List Pr) : Prop where
  nd : K.Nodup
  full : ∀ q ∈ K, roomOf caps q ≤ (dl.count (some q) : Nat)
  st : ∀ n : Nat, (n : Int) ∈ S → dl[n]? = some none → ∀ q ∈ heldP caps (hs[n]?.getD []), q ∈ K
  sat : ∀ (n : Nat) (q : Pr), dl[n]? = some (some q) → q ∈ K → ∀ q' ∈ heldP caps (hs[n]?.getD []), q' ∈ K
theorem Bfs.stuck {tk : Tk} {wl : List Int} (b : Bfs caps hs dl S tk wl) (h : ∀ n : Nat, (n : Int) ∈ wl → ∀ q ∈ heldP caps (hs[n]?.getD []), q ∈ keys tk) : Stuck caps hs dl S (keys tk) :=
  ⟨b.tree.kn, fun q hq => (b.full q hq).1, fun n h1 h2 => h n (b.st n h1 h2), fun n q h1 h2 => h n ((b.full q h2).2 n h1)⟩
end
end Zc
end

section
set_option Elab.async false
set_option linter.all false
set_option maxRecDepth 100000
set_option maxHeartbeats 2000000
/-! Lots and places: what a dealing can reach, and what a failed search shows. -/
namespace Zc
open PySem L2 Zk
theorem nodup_sub {α : Type} [DecidableEq α] : ∀ {l1 l2 : List α}, l1.Nodup → (∀ x ∈ l1, x ∈ l2) → l1.length ≤ l2.length
  | [], _, _, _ => Nat.zero_le _
  | a :: l, l2, n, h => by
    have ha := h a List.mem_cons_self
    have hn := List.nodup_cons.mp n
    have := nodup_sub (l2 := l2.erase a) hn.2 fun x hx => (List.mem_erase_of_ne (fun z => hn.1 (by rw [← z]; exact hx))).mpr (h x (List.mem_cons_of_mem _ hx))
    rw [List.length_erase_of_mem ha] at this
    have : 0 < l2.length := List.length_pos_of_mem ha
    rw [List.length_cons]
    omega
def sumP (g : Pr → Int) : List Pr → Int
  | [] => 0
  | q :: r => g q + sumP g r
/-! ### where a word stands in a dealing -/
/-! ### pairs, places -/
def pairsP (n : Nat) : List Pr := (List.range n).flatMap fun a => (List.range (n - (a + 1))).map fun j => ((a : Int), ((a + 1 + j : Nat) : Int))
theorem pairsP_mem {n : Nat} {q : Pr} : q ∈ pairsP n ↔ 0 ≤ q.1 ∧ q.1 < q.2 ∧ q.2 < (n : Int) := by
  unfold pairsP
  rw [List.mem_flatMap]
  constructor
  · rintro ⟨a, ha, h⟩
    obtain ⟨j, hj, rfl⟩ := List.mem_map.mp h
    rw [List.mem_range] at ha hj
    exact ⟨by simp, by simp; omega, by simp; omega⟩
  · rintro ⟨h1, h2, h3⟩
    obtain ⟨x, y⟩ := q
    simp only at h1 h2 h3
    refine ⟨x.toNat, List.mem_range.mpr (by omega), List.mem_map.mpr ⟨(y - x - 1).toNat, List.mem_range.mpr (by omega), ?_⟩⟩
    ext <;> simp <;> omega
theorem pairsP_nodup (n : Nat) : (pairsP n).Nodup := by
  unfold pairsP List.Nodup
  rw [List.pairwise_flatMap]
  refine ⟨fun a _ => ?_, ?_⟩
  · rw [List.pairwise_map]
    exact List.nodup_range.imp fun h z => h (by have := (Prod.mk.inj z).2; omega)
  · refine List.nodup_range.imp fun h x hx y hy z => h ?_
    obtain ⟨j, _, rfl⟩ := List.mem_map.mp hx
    obtain ⟨j', _, rfl⟩ := List.mem_map.mp hy
    have := (Prod.mk.inj z).1
    omega
def touch (hs : List (List Int)) (L : List Int) (q : Pr) : Bool := L.any fun p => (at_ hs p).contains q.1 && (at_ hs p).contains q.2
theorem touch_iff {hs : List (List Int)} {L : List Int} {q : Pr} : touch hs L q = true ↔ ∃ p ∈ L, q.1 ∈ at_ hs p ∧ q.2 ∈ at_ hs p := by
  unfold touch
  simp [List.any_eq_true]
def gP (caps : List Int) (hs : List (List Int)) (L : List Int) (q : Pr) : Int := if touch hs L q = true then roomOf caps q else 0
def placesP (caps : List Int) (hs : List (List Int)) (L : List Int) : Int := sumP (gP caps hs L) (pairsP caps.length)
section
variable {caps : List Int} {hs : List (List Int)} {m : Nat}
theorem hs_at {p : Nat} (h : p < hs.length) : hs[p]? = some (at_ hs (p : Int)) := by
  have := at_get (xs := hs) (k := (p : Int)) (by omega) (by omega)
  rw [Int.toNat_natCast] at this
  exact this
end
end Zc
end

section
set_option Elab.async false
set_option linter.all false
set_option maxRecDepth 100000
set_option maxHeartbeats 2000000
/-! The greatest number that can be dealt, as the laws count it. -/
namespace Zc
open PySem L2 Zk
def lotsL : Nat → List (List Int)
  | 0 => [[]]
  | n + 1 => lotsL n ++ (lotsL n).map fun l => l ++ [(n : Int)]
theorem pickI_succ (n : Nat) (T : Nat → Bool) : pickI (n + 1) T = pickI n T ++ if T n = true then [(n : Int)] else [] := by
  unfold pickI
  rw [List.range_succ, List.filter_append, List.map_append]
  congr 1
  cases h : T n <;> simp [List.filter_cons, h]
theorem lotsL_pick (T : Nat → Bool) : ∀ n : Nat, pickI n T ∈ lotsL n
  | 0 => List.mem_singleton.mpr rfl
  | n + 1 => by
    have ih := lotsL_pick T n
    rw [pickI_succ]
    unfold lotsL
    rw [List.mem_append]
    cases h : T n with
    | false => rw [if_neg (by simp), List.append_nil]; exact .inl ih
    | true => rw [if_pos rfl]; exact .inr (List.mem_map.mpr ⟨_, ih, rfl⟩)
theorem lotsL_hold : ∀ {n : Nat} {L : List Int}, L ∈ lotsL n → Hold n L
  | 0, L, h => by
    rw [List.mem_singleton.mp h]
    exact ⟨List.nodup_nil, fun k hk => by cases hk⟩
  | n + 1, L, h => by
    unfold lotsL at h
    rcases List.mem_append.mp h with h | h
    · have := lotsL_hold h
      exact ⟨this.1, fun k hk => by have := this.2 k hk; omega⟩
    · obtain ⟨l, h1, rfl⟩ := List.mem_map.mp h
      have ih := lotsL_hold h1
      refine ⟨?_, fun k hk => ?_⟩
      · rw [List.nodup_append]
        refine ⟨ih.1, by simp, fun a ha b hb z => ?_⟩
        have := (ih.2 a ha).2
        rw [List.mem_singleton.mp hb] at z
        omega
      · rcases List.mem_append.mp hk with z | z
        · have := ih.2 k z; omega
        · rw [List.mem_singleton.mp z]; omega
def lackStep (caps : List Int) (hs : List (List Int)) (a : Int) (L : List Int) : Int := if (L.length : Int) - placesP caps hs L > a then (L.length : Int) - placesP caps hs L else a
def lackP (caps : List Int) (hs : List (List Int)) : Int := (lotsL hs.length).foldl (lackStep caps hs) 0
section
variable {caps : List Int} {hs : List (List Int)} {m : Nat}
theorem lack_fold : ∀ (Ls : List (List Int)) (a : Int), a ≤ Ls.foldl (lackStep caps hs) a ∧ (∀ L ∈ Ls, (L.length : Int) - placesP caps hs L ≤ Ls.foldl (lackStep caps hs) a) ∧ (Ls.foldl (lackStep caps hs) a = a ∨ ∃ L ∈ Ls, Ls.foldl (lackStep caps hs) a = (L.length : Int) - placesP caps hs L)
  | [], a => ⟨Int.le_refl _, fun L h => (by cases h), .inl rfl⟩
  | L :: Ls, a => by
    obtain ⟨h1, h2, h3⟩ := lack_fold Ls (lackStep caps hs a L)
    have hs1 : a ≤ lackStep caps hs a L := by unfold lackStep; split <;> omega
    have hs2 : (L.length : Int) - placesP caps hs L ≤ lackStep caps hs a L := by unfold lackStep; split <;> omega
    have hs3 : lackStep caps hs a L = a ∨ lackStep caps hs a L = (L.length : Int) - placesP caps hs L := by unfold lackStep; split <;> simp
    rw [List.foldl_cons]
    refine ⟨by omega, fun L' h => ?_, ?_⟩
    · rcases List.mem_cons.mp h with z | z
      · rw [z]; omega
      · exact h2 L' z
    · rcases h3 with z | ⟨L', z1, z2⟩
      · rcases hs3 with y | y
        · exact .inl (z.trans y)
        · exact .inr ⟨L, List.mem_cons_self, z.trans y⟩
      · exact .inr ⟨L', List.mem_cons_of_mem _ z1, z2⟩
/-- how many are dealt -/
def dealt (dl : List (Option Pr)) : Int := (dl.length : Int) - (dl.count none : Nat)
/-! ### some of the pieces -/
end
end Zc
end

section
set_option Elab.async false
set_option linter.all false
set_option maxRecDepth 100000
set_option maxHeartbeats 2000000
/-! Who can be dealt: what a walk shows and what a failed search shows. -/
namespace Zc
open PySem L2 Zk
section
structure Mode (caps : List Int) (hs : List (List Int)) (M : Int) : Prop where
  ge : ∀ dl : List (Option Pr), DealOk caps hs dl → dealt dl ≤ M
  le : ∀ (dl : List (Option Pr)) (S : List Int) (K : List Pr), DealOk caps hs dl → Stuck caps hs dl S K → (∀ n : Nat, n < hs.length → (n : Int) ∈ S) → M ≤ dealt dl
structure Able (caps : List Int) (hs : List (List Int)) (dl : List (Option Pr)) (ab : List Int) : Prop where
  walk : ∀ (sts : Steps) (s : Int × Pr), dueB caps hs dl sts = true → sts.head? = some s → s.1 ∈ ab
  stuck : ∀ (S : List Int) (K : List Pr) (n : Nat), Stuck caps hs dl S K → (n : Int) ∈ S → n < hs.length → (n : Int) ∉ ab
/-! ### pools that a dealing fills -/
structure Rich (caps : List Int) (hs : List (List Int)) : Prop where
  ex : ∃ dl : List (Option Pr), IsDeal caps hs dl ∧ ∀ (p : Nat) (h : List Int), hs[p]? = some h → (dl[p]? = some none ↔ h.length ≤ 1)
end
end Zc
end

section
set_option Elab.async false
set_option linter.all false
set_option maxRecDepth 100000
set_option maxHeartbeats 2000000
/-! Greatest dealings, as the program makes them. -/
namespace Zc
open PySem L2 Zk
def setTk (tk : Tk) (q : Pr) (n : Int) : Tk := if q ∈ keys tk then tk.map (fun e => if e.1 = q then (e.1, n) else e) else tk ++ [(q, n)]
theorem setTk_keys (tk : Tk) (q : Pr) (n : Int) : keys (setTk tk q n) = if q ∈ keys tk then keys tk else keys tk ++ [q] := by
  unfold setTk
  by_cases h : q ∈ keys tk
  · rw [if_pos h, if_pos h]
    unfold keys
    rw [List.map_map]
    refine List.map_congr_left fun e _ => ?_
    show (if e.1 = q then (e.1, n) else e).1 = e.1
    split <;> rfl
  · rw [if_neg h, if_neg h]
    unfold keys
    rw [List.map_append]; rfl
/-- the counts of the first pieces -/
structure Given (dl : List (Option Pr)) (tk : Tk) : Prop where
  kn : (keys tk).Nodup
  val : ∀ e ∈ tk, e.2 = ((dl.count (some e.1) : Nat) : Int)
  no : ∀ q, q ∉ keys tk → dl.count (some q) = 0
  inn : ∀ q ∈ keys tk, some q ∈ dl
theorem Given.get {dl : List (Option Pr)} {tk : Tk} (g : Given dl tk) (q : Pr) : (getK (tkD tk) (prK q)).getD (.int 0) = .int ((dl.count (some q) : Nat) : Int) := by
  rw [getK_tk]
  cases h : tk.find? fun e => decide (e.1 = q) with
  | none =>
    have : q ∉ keys tk := fun z => by
      obtain ⟨e, h1, h2⟩ := List.mem_map.mp z
      exact List.find?_eq_none.mp h e h1 (decide_eq_true h2)
    rw [g.no q this]; rfl
  | some e =>
    have e1 : e.1 = q := of_decide_eq_true (List.find?_some (p := fun e : Pr × Int => decide (e.1 = q)) h)
    have := g.val e (List.mem_of_find?_eq_some h)
    show D.int e.2 = _
    rw [this, e1]
theorem Given.add {dl : List (Option Pr)} {tk : Tk} (g : Given dl tk) (q : Pr) : Given (dl ++ [some q]) (setTk tk q (((dl.count (some q) : Nat) : Int) + 1)) := by
  have cq : ∀ r : Pr, (dl ++ [some q]).count (some r) = dl.count (some r) + if r = q then 1 else 0 := fun r => by
    rw [List.count_append, List.count_singleton]
    congr 1
    by_cases h : r = q
    · rw [if_pos h, h]; simp
    · rw [if_neg h]; simp; exact fun z => h z.symm
  refine ⟨?_, fun e he => ?_, fun r hr => ?_, fun r hr => ?_⟩
  · rw [setTk_keys]
    split
    · exact g.kn
    · rename_i h
      rw [List.nodup_append]
      exact ⟨g.kn, by simp, fun a ha b hb z => h (by simp at hb; rw [← hb, ← z]; exact ha)⟩
  · rw [cq]
    unfold setTk at he
    split at he
    · obtain ⟨e0, h1, rfl⟩ := List.mem_map.mp he
      by_cases z : e0.1 = q
      · rw [if_pos z]
        show _ = ((dl.count (some e0.1) + (if e0.1 = q then 1 else 0) : Nat) : Int)
        rw [if_pos z, z]; omega
      · rw [if_neg z, if_neg z]
        exact g.val e0 h1
    · rename_i hn
      rcases List.mem_append.mp he with h1 | h1
      · have hne : e.1 ≠ q := fun z => hn (List.mem_map.mpr ⟨e, h1, z⟩)
        rw [if_neg hne]
        exact g.val e h1
      · rw [List.mem_singleton.mp h1]
        show _ = ((dl.count (some q) + (if q = q then 1 else 0) : Nat) : Int)
        rw [if_pos rfl]; omega
  · rw [setTk_keys] at hr
    have hr2 : r ∉ keys tk ∧ r ≠ q := by
      split at hr
      · rename_i h; exact ⟨hr, fun z => hr (by rw [z]; exact h)⟩
      · exact ⟨fun z => hr (List.mem_append_left _ z), fun z => hr (List.mem_append_right _ (by simp [z]))⟩
    rw [cq, g.no r hr2.1, if_neg hr2.2]
  · rw [setTk_keys] at hr
    split at hr
    · exact List.mem_append_left _ (g.inn r hr)
    · rcases List.mem_append.mp hr with h | h
      · exact List.mem_append_left _ (g.inn r h)
      · rw [List.mem_singleton.mp h]; exact List.mem_append_right _ (by simp)
theorem Given.skip {dl : List (Option Pr)} {tk : Tk} (g : Given dl tk) : Given (dl ++ [none]) tk := by
  have cq : ∀ r : Pr, (dl ++ [none]).count (some r) = dl.count (some r) := fun r => by
    rw [List.count_append, List.count_singleton]; simp
  exact ⟨g.kn, fun e he => by rw [cq]; exact g.val e he, fun q hq => by rw [cq]; exact g.no q hq, fun q hq => List.mem_append_left _ (g.inn q hq)⟩
section
variable {caps : List Int} {hs : List (List Int)} {m : Nat}
end
end Zc
end

section
set_option Elab.async false
set_option linter.all false
set_option maxRecDepth 100000
set_option maxHeartbeats 2000000
/-! Dealings and lots judged, whatever the list. -/
namespace Zc
open PySem L2 Zk
/-! ### is_dealing -/
section
variable {caps : List Int} {hs : List (List Int)} {m : Nat}
theorem all_bls {α : Type} (xs : List α) (T : α → Bool) : allD [.lst (xs.map fun x => D.bl (T x))] = some (.bl (xs.all T)) := by
  show (asBls _).map _ = _
  rw [asBls_map]
  show some (D.bl _) = _
  rw [List.all_map]; rfl
end
/-! ### are_ascending -/
instance {n : Nat} {h : List Int} : Decidable (Asc n h) := by unfold Asc; exact inferInstance
/-! ### repr of a list of alike data -/
end Zc
end

section
set_option Elab.async false
set_option linter.all false
set_option maxRecDepth 100000
set_option autoImplicit false
set_option maxHeartbeats 2000000
/-! Lots of greatest lack against a greatest dealing: the open pairs. -/
namespace Zc
open PySem L2 Zk
section
variable {caps : List Int} {hs : List (List Int)} {m : Nat} {dl : List (Option Pr)}
/-- of greatest lack, where dl is a greatest dealing -/
structure Tight (caps : List Int) (hs : List (List Int)) (dl : List (Option Pr)) (L : List Int) : Prop where
  hold : Hold hs.length L
  eq : (L.length : Int) = placesP caps hs L + (dl.count none : Nat)
/-- what a dealt piece holds -/
theorem dealt_in (ok : PoolOk caps hs m) (dk : DealOk caps hs dl) {n : Nat} {q : Pr} (h : dl[n]? = some (some q)) : n < hs.length ∧ q ∈ pairsP caps.length ∧ q.1 ∈ at_ hs (n : Int) ∧ q.2 ∈ at_ hs (n : Int) ∧ 0 < roomOf caps q := by
  obtain ⟨r, h1, h2⟩ := dk.held n q h
  have hn := (List.getElem?_eq_some_iff.mp h1).1
  have ha := ok.asc r (List.mem_of_getElem? h1)
  have z := (heldP_mem ha q).mp h2
  have w := held_in ha h2
  have e : at_ hs (n : Int) = r := at_eq (m := n) rfl h1
  refine ⟨hn, pairsP_mem.mpr ⟨w.1.1, z.2.2.1, w.2.2⟩, by rw [e]; exact z.1, by rw [e]; exact z.2.1, ?_⟩
  have hc : 0 < dl.count (some q) := List.count_pos_iff.mpr (List.mem_of_getElem? h)
  rcases dk.room q with r | r
  · omega
  · omega
/-- what the program opens -/
inductive Op (caps : List Int) (hs : List (List Int)) (dl : List (Option Pr)) : Pr → Prop
  | free {q : Pr} : q ∈ pairsP caps.length → 0 < roomOf caps q → ((dl.count (some q) : Nat) : Int) < roomOf caps q → Op caps hs dl q
  | step {q q' : Pr} {n : Nat} : Op caps hs dl q' → dl[n]? = some (some q) → q'.1 ∈ at_ hs (n : Int) → q'.2 ∈ at_ hs (n : Int) → Op caps hs dl q
theorem Op.room (ok : PoolOk caps hs m) (dk : DealOk caps hs dl) {q : Pr} (o : Op caps hs dl q) : q ∈ pairsP caps.length ∧ 0 < roomOf caps q := by
  cases o with
  | free h1 h2 _ => exact ⟨h1, h2⟩
  | step _ h _ _ => have := dealt_in ok dk h; exact ⟨this.2.1, this.2.2.2.2⟩
end
end Zc
end

section
set_option Elab.async false
set_option linter.all false
set_option maxRecDepth 100000
set_option autoImplicit false
set_option maxHeartbeats 2000000
/-! One piece more. -/
namespace Zc
open PySem L2 Zk
theorem sumP_same {g g' : Pr → Int} : ∀ {P : List Pr}, (∀ q ∈ P, g q = g' q) → sumP g P = sumP g' P
  | [], _ => rfl
  | x :: P, h => by
    unfold sumP
    rw [h x List.mem_cons_self, sumP_same (P := P) fun y hy => h y (List.mem_cons_of_mem _ hy)]
section
variable {caps : List Int} {hs : List (List Int)} {m : Nat} {dl : List (Option Pr)}
end
end Zc
end

section
set_option Elab.async false
set_option linter.all false
set_option maxRecDepth 100000
set_option autoImplicit false
set_option maxHeartbeats 2000000
/-! A pool laid out t times on some of twelve seats. -/
namespace Zc
open PySem L2 Zk
/-- t copies -/
def copies {α : Type} (t : Nat) (xs : List α) : List α := (List.replicate t xs).flatten
theorem copies_len {α : Type} (t : Nat) (xs : List α) : (copies t xs).length = t * xs.length := by
  unfold copies
  rw [List.length_flatten, List.map_replicate, List.sum_replicate_nat]
theorem copies_get {α : Type} (xs : List α) : ∀ (t j : Nat), j < t * xs.length → (copies t xs)[j]? = xs[j % xs.length]?
  | 0, j, h => by omega
  | t + 1, j, h => by
    have e : copies (t + 1) xs = xs ++ copies t xs := by unfold copies; rw [List.replicate_succ, List.flatten_cons]
    rw [e]
    by_cases hj : j < xs.length
    · rw [List.getElem?_append_left hj, Nat.mod_eq_of_lt hj]
    · have h2 : (t + 1) * xs.length = t * xs.length + xs.length := Nat.succ_mul _ _
      rw [List.getElem?_append_right (by omega), copies_get xs t (j - xs.length) (by omega)]
      congr 1
      exact (Nat.mod_eq_sub_mod (by omega)).symm
/-- how many of range (t * n) have a remainder that T likes -/
theorem period_len (n : Nat) (T : Nat → Bool) : ∀ t : Nat, ((List.range (t * n)).filter fun j => T (j % n)).length = t * ((List.range n).filter T).length
  | 0 => by simp
  | t + 1 => by
    have e : List.range ((t + 1) * n) = List.range (t * n) ++ (List.range n).map (fun j => t * n + j) := by
      rw [Nat.succ_mul, List.range_add]
    rw [e, List.filter_append, List.length_append, period_len n T t, List.filter_map, List.length_map, Nat.succ_mul]
    congr 2
    refine List.filter_congr fun j hj => ?_
    show T ((t * n + j) % n) = T j
    rw [Nat.mul_comm t n, Nat.mul_add_mod, Nat.mod_eq_of_lt (List.mem_range.mp hj)]
/-- a pool laid out t times on the seats sp of twelve -/
structure Laid (caps : List Int) (hs : List (List Int)) (sp wide : List Int) (rows : List (List Int)) (t : Nat) : Prop where
  t1 : 1 ≤ t
  sl : sp.length = caps.length
  s0 : ∀ k : Int, 0 ≤ k → k < (caps.length : Nat) → 0 ≤ at_ sp k ∧ at_ sp k < 12
  inc : ∀ i j : Int, 0 ≤ i → i < j → j < (caps.length : Nat) → at_ sp i < at_ sp j
  wl : wide.length = 12
  w0 : ∀ x ∈ wide, 0 ≤ x ∧ x < 10 ^ 60
  wc : ∀ k : Int, 0 ≤ k → k < (caps.length : Nat) → at_ wide (at_ sp k) = at_ caps k * (t : Int)
  rw : rows = (copies t hs).map fun r => r.map (at_ sp)
def sig (sp : List Int) (q : Pr) : Pr := (at_ sp q.1, at_ sp q.2)
section
variable {caps : List Int} {hs : List (List Int)} {sp wide : List Int} {rows : List (List Int)} {t m : Nat}
theorem Laid.inj (l : Laid caps hs sp wide rows t) {i j : Int} (hi : 0 ≤ i ∧ i < (caps.length : Nat)) (hj : 0 ≤ j ∧ j < (caps.length : Nat)) (e : at_ sp i = at_ sp j) : i = j := by
  rcases Int.lt_trichotomy i j with z | z | z
  · have := l.inc i j hi.1 z hj.2; omega
  · exact z
  · have := l.inc j i hj.1 z hi.2; omega
theorem Laid.len (l : Laid caps hs sp wide rows t) : rows.length = t * hs.length := by rw [l.rw, List.length_map, copies_len]
theorem Laid.row (l : Laid caps hs sp wide rows t) {j : Nat} (hj : j < t * hs.length) : at_ rows (j : Int) = (at_ hs ((j % hs.length : Nat) : Int)).map (at_ sp) := by
  have hn : 0 < hs.length := by
    rcases Nat.eq_zero_or_pos hs.length with z | z
    · rw [z] at hj; simp at hj
    · exact z
  have h1 := copies_get hs t j hj
  have h2 := hs_at (hs := hs) (p := j % hs.length) (Nat.mod_lt _ hn)
  rw [h2] at h1
  refine at_eq (m := j) rfl ?_
  rw [l.rw, List.getElem?_map, h1]
  rfl
theorem Laid.mem (l : Laid caps hs sp wide rows t) (ok : PoolOk caps hs m) {p : Nat} (hp : p < hs.length) {x : Int} (hx : 0 ≤ x ∧ x < (caps.length : Nat)) : at_ sp x ∈ (at_ hs (p : Int)).map (at_ sp) ↔ x ∈ at_ hs (p : Int) := by
  have ha := ok.asc _ (List.mem_of_getElem? (hs_at hp))
  constructor
  · intro h
    obtain ⟨y, hy, e⟩ := List.mem_map.mp h
    rw [← l.inj (ha.2 y hy) hx e]
    exact hy
  · exact fun h => List.mem_map.mpr ⟨x, h, rfl⟩
/-- the kinds of a lot -/
def baseL (hs : List (List Int)) (L : List Int) : List Int := pickI hs.length fun p => L.any fun x => x.toNat % hs.length == p
def fullL (hs : List (List Int)) (t : Nat) (B : List Int) : List Int := pickI (t * hs.length) fun j => B.contains ((j % hs.length : Nat) : Int)
theorem base_mem {L : List Int} {x : Int} : x ∈ baseL hs L ↔ ∃ p : Nat, x = (p : Int) ∧ p < hs.length ∧ ∃ y ∈ L, y.toNat % hs.length = p := by
  unfold baseL
  rw [pickI_mem]
  constructor
  · rintro ⟨p, rfl, hp, h⟩
    obtain ⟨y, hy, e⟩ := List.any_eq_true.mp h
    exact ⟨p, rfl, hp, y, hy, eq_of_beq e⟩
  · rintro ⟨p, rfl, hp, y, hy, e⟩
    exact ⟨p, rfl, hp, List.any_eq_true.mpr ⟨y, hy, by rw [e]; exact beq_self_eq_true _⟩⟩
theorem Laid.tch (l : Laid caps hs sp wide rows t) (ok : PoolOk caps hs m) {L : List Int} (hL : Hold (t * hs.length) L) {q : Pr} (hq : q ∈ pairsP caps.length) : touch rows L (sig sp q) = touch hs (baseL hs L) q := by
  have hq2 := pairsP_mem.mp hq
  rw [Bool.eq_iff_iff, touch_iff, touch_iff]
  constructor
  · rintro ⟨y, hy, a, b⟩
    have h1 := hL.2 y hy
    have hn : 0 < hs.length := by
      rcases Nat.eq_zero_or_pos hs.length with z | z
      · rw [z] at h1; simp at h1; omega
      · exact z
    have hm := Nat.mod_lt y.toNat hn
    rw [show y = ((y.toNat : Nat) : Int) by omega, l.row (by omega)] at a b
    exact ⟨_, base_mem.mpr ⟨y.toNat % hs.length, rfl, hm, y, hy, rfl⟩, (l.mem ok hm ⟨hq2.1, by omega⟩).mp a, (l.mem ok hm ⟨by omega, hq2.2.2⟩).mp b⟩
  · rintro ⟨x, hx, a, b⟩
    obtain ⟨p, rfl, hp, y, hy, e⟩ := base_mem.mp hx
    have h1 := hL.2 y hy
    refine ⟨y, hy, ?_⟩
    rw [show y = ((y.toNat : Nat) : Int) by omega, l.row (by omega), e]
    exact ⟨(l.mem ok hp ⟨hq2.1, by omega⟩).mpr a, (l.mem ok hp ⟨by omega, hq2.2.2⟩).mpr b⟩
/-- no piece holds a seat beside sp -/
theorem Laid.beside (l : Laid caps hs sp wide rows t) (ok : PoolOk caps hs m) {L : List Int} (hL : Hold (t * hs.length) L) {q : Pr} (h : touch rows L q = true) (h2 : q.1 < q.2) : ∃ r, r ∈ pairsP caps.length ∧ sig sp r = q := by
  obtain ⟨y, hy, a, b⟩ := touch_iff.mp h
  have h1 := hL.2 y hy
  have hn : 0 < hs.length := by
    rcases Nat.eq_zero_or_pos hs.length with z | z
    · rw [z] at h1; simp at h1; omega
    · exact z
  have hm := Nat.mod_lt y.toNat hn
  rw [show y = ((y.toNat : Nat) : Int) by omega, l.row (by omega)] at a b
  obtain ⟨x1, hx1, e1⟩ := List.mem_map.mp a
  obtain ⟨x2, hx2, e2⟩ := List.mem_map.mp b
  have ha := ok.asc _ (List.mem_of_getElem? (hs_at hm))
  have r1 := ha.2 x1 hx1
  have r2 := ha.2 x2 hx2
  have lt : x1 < x2 := by
    rcases Int.lt_trichotomy x1 x2 with z | z | z
    · exact z
    · rw [z] at e1; omega
    · have := l.inc x2 x1 r2.1 z r1.2; omega
  exact ⟨(x1, x2), pairsP_mem.mpr ⟨r1.1, lt, r2.2⟩, Prod.ext e1 e2⟩
theorem sumP_filter {g : Pr → Int} {T : Pr → Bool} : ∀ {A : List Pr}, (∀ x ∈ A, T x = false → g x = 0) → sumP g A = sumP g (A.filter T)
  | [], _ => rfl
  | x :: A, h => by
    have ih := sumP_filter (A := A) fun y hy => h y (List.mem_cons_of_mem _ hy)
    rw [List.filter_cons]
    cases e : T x with
    | true => show g x + sumP g A = g x + sumP g _; rw [ih]
    | false =>
      have := h x List.mem_cons_self e
      show g x + sumP g A = sumP g (A.filter T)
      rw [ih, this, Int.zero_add]
theorem sumP_perm {g : Pr → Int} {A B : List Pr} (p : A.Perm B) : sumP g A = sumP g B := by
  induction p with
  | nil => rfl
  | cons x _ ih => show g x + _ = g x + _; rw [ih]
  | swap x y l => show g y + (g x + sumP g l) = g x + (g y + sumP g l); omega
  | trans _ _ h1 h2 => exact h1.trans h2
theorem sumP_mapT {g f : Pr → Int} {s : Pr → Pr} {c : Int} : ∀ {A : List Pr}, (∀ x ∈ A, g (s x) = f x * c) → sumP g (A.map s) = sumP f A * c
  | [], _ => by simp [sumP]
  | x :: A, h => by
    show g (s x) + sumP g (A.map s) = (f x + sumP f A) * c
    rw [h x List.mem_cons_self, sumP_mapT (A := A) fun y hy => h y (List.mem_cons_of_mem _ hy), Int.add_mul]
theorem Laid.room (l : Laid caps hs sp wide rows t) {q : Pr} (hq : q ∈ pairsP caps.length) : roomOf wide (sig sp q) = roomOf caps q * (t : Int) := by
  have hq2 := pairsP_mem.mp hq
  show (if at_ wide (at_ sp q.2) < at_ wide (at_ sp q.1) then at_ wide (at_ sp q.2) else at_ wide (at_ sp q.1)) = (if at_ caps q.2 < at_ caps q.1 then at_ caps q.2 else at_ caps q.1) * (t : Int)
  rw [l.wc q.1 hq2.1 (by omega), l.wc q.2 (by omega) hq2.2.2]
  have ht : (0 : Int) < (t : Int) := by have := l.t1; omega
  by_cases z : at_ caps q.2 < at_ caps q.1
  · rw [if_pos z, if_pos (Int.mul_lt_mul_of_pos_right z ht)]
  · rw [if_neg z, if_neg fun w => z (Int.lt_of_mul_lt_mul_right w (by omega))]
theorem Laid.sig_in (l : Laid caps hs sp wide rows t) {q : Pr} (hq : q ∈ pairsP caps.length) : sig sp q ∈ pairsP wide.length := by
  have hq2 := pairsP_mem.mp hq
  have a := l.s0 q.1 hq2.1 (by omega)
  have b := l.s0 q.2 (by omega) hq2.2.2
  exact pairsP_mem.mpr ⟨a.1, l.inc q.1 q.2 hq2.1 hq2.2.1 hq2.2.2, by rw [l.wl]; exact b.2⟩
theorem Laid.sig_inj (l : Laid caps hs sp wide rows t) {q r : Pr} (hq : q ∈ pairsP caps.length) (hr : r ∈ pairsP caps.length) (e : sig sp q = sig sp r) : q = r := by
  have hq2 := pairsP_mem.mp hq
  have hr2 := pairsP_mem.mp hr
  have e1 : at_ sp q.1 = at_ sp r.1 := congrArg Prod.fst e
  have e2 : at_ sp q.2 = at_ sp r.2 := congrArg Prod.snd e
  exact Prod.ext (l.inj ⟨hq2.1, by omega⟩ ⟨hr2.1, by omega⟩ e1) (l.inj ⟨by omega, hq2.2.2⟩ ⟨by omega, hr2.2.2⟩ e2)
theorem Laid.places (l : Laid caps hs sp wide rows t) (ok : PoolOk caps hs m) {L : List Int} (hL : Hold (t * hs.length) L) : placesP wide rows L = placesP caps hs (baseL hs L) * (t : Int) := by
  have hn : ((pairsP caps.length).map (sig sp)).Nodup := by
    refine List.pairwise_map.mpr ((pairsP_nodup caps.length).imp_of_mem fun {a b} ha hb hne e => hne (l.sig_inj ha hb e))
  have e1 : sumP (gP wide rows L) (pairsP wide.length) = sumP (gP wide rows L) ((pairsP wide.length).filter fun q => decide (q ∈ (pairsP caps.length).map (sig sp))) := sumP_filter fun q hq hT => by
    unfold gP
    split
    · rename_i h
      obtain ⟨r, h1, h2⟩ := l.beside ok hL h (pairsP_mem.mp hq).2.1
      have := of_decide_eq_false hT
      exact absurd (List.mem_map.mpr ⟨r, h1, h2⟩) this
    · rfl
  have e2 : ((pairsP wide.length).filter fun q => decide (q ∈ (pairsP caps.length).map (sig sp))).Perm ((pairsP caps.length).map (sig sp)) := (List.perm_ext_iff_of_nodup ((pairsP_nodup _).sublist List.filter_sublist) hn).mpr fun q => by
    rw [List.mem_filter, decide_eq_true_eq]
    refine ⟨fun h => h.2, fun h => ⟨?_, h⟩⟩
    obtain ⟨r, h1, rfl⟩ := List.mem_map.mp h
    exact l.sig_in h1
  unfold placesP
  rw [e1, sumP_perm e2]
  refine sumP_mapT fun q hq => ?_
  unfold gP
  rw [l.tch ok hL hq]
  split
  · exact l.room hq
  · rw [Int.zero_mul]
theorem full_len {B : List Int} (hB : Hold hs.length B) : (fullL hs t B).length = t * B.length := by
  unfold fullL pickI
  rw [List.length_map, period_len hs.length (fun p => B.contains ((p : Nat) : Int)) t]
  congr 1
  have e : (((List.range hs.length).filter fun p => B.contains ((p : Nat) : Int)).map fun i => ((i : Nat) : Int)).length = B.length := by
    refine Nat.le_antisymm (nodup_sub (Asc.hold (pickI_asc hs.length fun p => B.contains ((p : Nat) : Int))).1 fun x hx => ?_) (nodup_sub hB.1 fun x hx => ?_)
    · obtain ⟨p, rfl, _, h⟩ := pickI_mem.mp hx
      simpa using h
    · have := hB.2 x hx
      refine pickI_mem.mpr ⟨x.toNat, by omega, by omega, ?_⟩
      rw [show ((x.toNat : Nat) : Int) = x by omega]
      simpa using hx
  rw [List.length_map] at e
  exact e
theorem base_hold (L : List Int) : Hold hs.length (baseL hs L) := Asc.hold (pickI_asc _ _)
theorem full_hold (B : List Int) : Hold (t * hs.length) (fullL hs t B) := Asc.hold (pickI_asc _ _)
theorem le_full {L : List Int} (hL : Hold (t * hs.length) L) : L.length ≤ t * (baseL hs L).length := by
  rw [← full_len (base_hold L)]
  refine nodup_sub hL.1 fun y hy => ?_
  have h1 := hL.2 y hy
  have hn : 0 < hs.length := by
    rcases Nat.eq_zero_or_pos hs.length with z | z
    · rw [z] at h1; simp at h1; omega
    · exact z
  refine pickI_mem.mpr ⟨y.toNat, by omega, by omega, ?_⟩
  have : ((y.toNat % hs.length : Nat) : Int) ∈ baseL hs L := base_mem.mpr ⟨_, rfl, Nat.mod_lt _ hn, y, hy, rfl⟩
  simpa using this
theorem base_full (h1 : 1 ≤ t) {B : List Int} (hB : Hold hs.length B) {x : Int} : x ∈ baseL hs (fullL hs t B) ↔ x ∈ B := by
  rw [base_mem]
  constructor
  · rintro ⟨p, rfl, hp, y, hy, e⟩
    obtain ⟨j, rfl, hj, h⟩ := pickI_mem.mp hy
    rw [Int.toNat_natCast] at e
    rw [e] at h
    simpa using h
  · intro hx
    have := hB.2 x hx
    have hlt : x.toNat < t * hs.length := Nat.lt_of_lt_of_le (show x.toNat < hs.length by omega) (Nat.le_mul_of_pos_left _ h1)
    refine ⟨x.toNat, by omega, by omega, x, pickI_mem.mpr ⟨x.toNat, by omega, hlt, ?_⟩, Nat.mod_eq_of_lt (by omega)⟩
    rw [Nat.mod_eq_of_lt (by omega), show ((x.toNat : Nat) : Int) = x by omega]
    simpa using hx
theorem touch_same {L L' : List Int} (h : ∀ x, x ∈ L ↔ x ∈ L') (q : Pr) : touch hs L q = touch hs L' q := by
  rw [Bool.eq_iff_iff, touch_iff, touch_iff]
  exact exists_congr fun x => and_congr_left fun _ => h x
theorem places_same {L L' : List Int} (h : ∀ x, x ∈ L ↔ x ∈ L') : placesP caps hs L = placesP caps hs L' := by
  unfold placesP
  exact sumP_same fun q _ => by unfold gP; rw [touch_same h]
/-- lacks of the laid out pool -/
theorem Laid.lack_le (l : Laid caps hs sp wide rows t) (ok : PoolOk caps hs m) {L : List Int} (hL : Hold (t * hs.length) L) : (L.length : Int) - placesP wide rows L ≤ (((baseL hs L).length : Int) - placesP caps hs (baseL hs L)) * (t : Int) := by
  rw [l.places ok hL, Int.sub_mul]
  have h1 := le_full hL
  have h2 : ((t * (baseL hs L).length : Nat) : Int) = ((baseL hs L).length : Int) * (t : Int) := by rw [Int.natCast_mul, Int.mul_comm]
  omega
theorem Laid.lack_full (l : Laid caps hs sp wide rows t) (ok : PoolOk caps hs m) {B : List Int} (hB : Hold hs.length B) : ((fullL hs t B).length : Int) - placesP wide rows (fullL hs t B) = ((B.length : Int) - placesP caps hs B) * (t : Int) := by
  rw [l.places ok (full_hold B), places_same (fun x => base_full l.t1 hB), full_len hB, Int.sub_mul, Int.natCast_mul, Int.mul_comm]
end
end Zc
end

section
set_option Elab.async false
set_option linter.all false
set_option maxRecDepth 100000
set_option autoImplicit false
set_option maxHeartbeats 2000000
/-! The open pairs of a pool laid out. -/
namespace Zc
open PySem L2 Zk
section
variable {caps : List Int} {hs : List (List Int)} {sp wide : List Int} {rows : List (List Int)} {t m : Nat}
theorem Laid.lackP (l : Laid caps hs sp wide rows t) (ok : PoolOk caps hs m) : Zc.lackP wide rows = Zc.lackP caps hs * (t : Int) := by
  obtain ⟨a1, a2, a3⟩ := lack_fold (caps := caps) (hs := hs) (lotsL hs.length) 0
  obtain ⟨b1, b2, b3⟩ := lack_fold (caps := wide) (hs := rows) (lotsL rows.length) 0
  have ea : (lotsL hs.length).foldl (lackStep caps hs) 0 = Zc.lackP caps hs := rfl
  have eb : (lotsL rows.length).foldl (lackStep wide rows) 0 = Zc.lackP wide rows := rfl
  rw [ea] at a1 a2 a3
  rw [eb] at b1 b2 b3
  rw [l.len] at b2 b3
  have ht : (0 : Int) ≤ (t : Int) := by omega
  refine Int.le_antisymm ?_ ?_
  · rcases b3 with z | ⟨L, hL, z⟩
    · rw [z]; exact Int.mul_nonneg a1 ht
    · rw [z]
      refine Int.le_trans (l.lack_le ok (lotsL_hold hL)) (Int.mul_le_mul_of_nonneg_right (a2 _ ?_) ht)
      exact lotsL_pick _ hs.length
  · rcases a3 with z | ⟨L, hL, z⟩
    · rw [z, Int.zero_mul]; exact b1
    · rw [z, ← l.lack_full ok (lotsL_hold hL)]
      exact b2 _ (lotsL_pick _ (t * hs.length))
end
end Zc
end

section
set_option Elab.async false
set_option linter.all false
set_option maxRecDepth 100000
set_option maxHeartbeats 4000000
/-! The pool laid out on twelve seats, as a program. -/
namespace Zc
open PySem L2 Zk
section
variable {caps : List Int} {hs : List (List Int)} {m : Nat}
/-- the seats, as far as k -/
structure SpL (sp : List Int) (k : Nat) : Prop where
  len : sp.length = k
  rng : ∀ j : Int, 0 ≤ j → j < (k : Nat) → 0 ≤ at_ sp j ∧ at_ sp j ≤ 3 + 2 * j
  inc : ∀ i j : Int, 0 ≤ i → i < j → j < (k : Nat) → at_ sp i < at_ sp j
theorem SpL.more {sp : List Int} {k : Nat} (s : SpL sp k) (h1 : 1 ≤ k) {d : Int} (hd : 0 ≤ d ∧ d < 2) : SpL (sp ++ [at_ sp ((k : Int) - 1) + 1 + d]) (k + 1) := by
  have hl := s.len
  have old : ∀ j : Int, 0 ≤ j → j < (k : Nat) → at_ (sp ++ [at_ sp ((k : Int) - 1) + 1 + d]) j = at_ sp j := fun j h0 hj => by
    have := at_get (xs := sp) h0 (by omega)
    exact at_eq (m := j.toNat) (by omega) (by rw [List.getElem?_append_left (by omega)]; exact this)
  have new : at_ (sp ++ [at_ sp ((k : Int) - 1) + 1 + d]) (k : Int) = at_ sp ((k : Int) - 1) + 1 + d := at_eq (m := k) rfl (by rw [List.getElem?_append_right (by omega), hl, Nat.sub_self]; rfl)
  have hb := s.rng ((k : Int) - 1) (by omega) (by omega)
  refine ⟨by rw [List.length_append, hl]; rfl, fun j h0 hj => ?_, fun i j h0 hij hj => ?_⟩
  · by_cases e : j < (k : Nat)
    · rw [old j h0 e]; exact s.rng j h0 e
    · rw [show j = (k : Int) by omega, new]; omega
  · by_cases e : j < (k : Nat)
    · rw [old j (by omega) e, old i h0 (by omega)]; exact s.inc i j h0 hij e
    · rw [show j = (k : Int) by omega, new, old i h0 (by omega)]
      by_cases e2 : i = (k : Int) - 1
      · rw [e2]; omega
      · have := s.inc i ((k : Int) - 1) h0 (by omega) (by omega); omega
end
end Zc
end

section
set_option Elab.async false
set_option linter.all false
set_option maxRecDepth 100000
set_option maxHeartbeats 4000000
/-! The least lot of greatest lack. -/
namespace Zc
open PySem L2 Zk
section
variable {g : Gm} {d e : D} {ds es : List D} {i : Nat} {q : Pr} {kvs more : List (Key × D)} {tvs : List (List Key × D)} {o : Option Wd} {a k : DF}
end
/-! ### what is reached -/
inductive Rch (n : Nat) (ls : List (List Pr)) (rw : Nat → List (List Key × D)) (rv : Nat → Int) : Nat → Prop
  | base {k : Nat} : k < n → 0 < rv k → Rch n ls rw rv k
  | step {k j : Nat} {q : Pr} : Rch n ls rw rv k → q ∈ at_ ls (k : Int) → j < n → (getK (rw j) (prK q)).isSome = true → Rch n ls rw rv j
/-- what the search knows -/
structure Bfr (n : Nat) (ls : List (List Pr)) (rw : Nat → List (List Key × D)) (rv : Nat → Int) (tk : Tk) (lv : List (Int × D)) : Prop where
  hold : Hold n (lv.map (·.1))
  rch : ∀ k : Nat, (k : Int) ∈ lv.map (·.1) → Rch n ls rw rv k
  base : ∀ k : Nat, k < n → 0 < rv k → (k : Int) ∈ lv.map (·.1)
  out : ∀ q ∈ keys tk, ∀ j : Nat, j < n → (getK (rw j) (prK q)).isSome = true → (j : Int) ∈ lv.map (·.1)
def comeL (n : Nat) (rw : Nat → List (List Key × D)) (lv : List (Int × D)) (q : Pr) : List Int := pickI n fun j => (getK (rw j) (prK q)).isSome && !decide ((j : Int) ∈ lv.map (·.1))
theorem Bfr.more {n : Nat} {ls : List (List Pr)} {rw : Nat → List (List Key × D)} {rv : Nat → Int} {tk : Tk} {lv : List (Int × D)} (b : Bfr n ls rw rv tk lv) {k : Nat} (hk : (k : Int) ∈ lv.map (·.1)) {q : Pr} (hq : q ∈ at_ ls (k : Int)) (p : Int) (d : D) :
    Bfr n ls rw rv (tk ++ [(q, p)]) (lv ++ (comeL n rw lv q).map fun j => (j, d)) := by
  have e : (lv ++ (comeL n rw lv q).map fun j => (j, d)).map (·.1) = lv.map (·.1) ++ comeL n rw lv q := by
    rw [List.map_append, List.map_map]
    congr 1
    exact List.map_id _
  have hc : Asc n (comeL n rw lv q) := pickI_asc n _
  refine ⟨?_, ?_, ?_, ?_⟩
  · rw [e]
    refine ⟨List.nodup_append.mpr ⟨b.hold.1, hc.nodup, fun x hx y hy z => ?_⟩, fun x hx => ?_⟩
    · subst z
      obtain ⟨i, rfl, h1, h2⟩ := pickI_mem.mp hy
      rw [Bool.and_eq_true] at h2
      rw [decide_eq_true hx] at h2
      cases h2.2
    · rcases List.mem_append.mp hx with z | z
      · exact b.hold.2 x z
      · exact hc.2 x z
  · rw [e]
    intro j hj
    rcases List.mem_append.mp hj with z | z
    · exact b.rch j z
    · obtain ⟨i, e1, h1, h2⟩ := pickI_mem.mp z
      have : j = i := by omega
      subst this
      rw [Bool.and_eq_true] at h2
      exact .step (b.rch k hk) hq h1 h2.1
  · rw [e]
    exact fun j h1 h2 => List.mem_append_left _ (b.base j h1 h2)
  · rw [e]
    intro r hr j hj h
    unfold keys at hr
    rw [List.map_append, List.mem_append] at hr
    rcases hr with z | z
    · exact List.mem_append_left _ (b.out r z j hj h)
    · have z : r = q := by simpa using z
      subst z
      by_cases w : (j : Int) ∈ lv.map (·.1)
      · exact List.mem_append_left _ w
      · refine List.mem_append_right _ (pickI_mem.mpr ⟨j, rfl, hj, ?_⟩)
        rw [h, decide_eq_false w]
        rfl
end Zc
end

section
set_option Elab.async false
set_option linter.all false
set_option maxRecDepth 100000
set_option maxHeartbeats 4000000
/-! Least lots: one only; of a pool laid out. -/
namespace Zc
open PySem L2 Zk
theorem asc_eq {n : Nat} {A B : List Int} (a : Asc n A) (b : Asc n B) (h : ∀ x, x ∈ A ↔ x ∈ B) : A = B :=
  perm_sorted ((List.perm_ext_iff_of_nodup a.nodup b.nodup).mpr h) (a.1.imp fun q => by omega) (b.1.imp fun q => by omega)
section
variable {caps : List Int} {hs : List (List Int)} {m : Nat} {dl : List (Option Pr)}
/-- of greatest lack -/
def Gl (caps : List Int) (hs : List (List Int)) (L : List Int) : Prop := (L.length : Int) - placesP caps hs L = lackP caps hs
structure LeastLot (caps : List Int) (hs : List (List Int)) (S : List Int) : Prop where
  asc : Asc hs.length S
  gl : Gl caps hs S
  sub : ∀ L, Hold hs.length L → Gl caps hs L → ∀ x ∈ S, x ∈ L
theorem LeastLot.one {S S' : List Int} (a : LeastLot caps hs S) (b : LeastLot caps hs S') : S = S' :=
  asc_eq a.asc b.asc fun x => ⟨a.sub S' (Asc.hold b.asc) b.gl x, b.sub S (Asc.hold a.asc) a.gl x⟩
/-! ### laid out -/
variable {sp wide : List Int} {rows : List (List Int)} {t : Nat}
end
end Zc
end

section
set_option Elab.async false
set_option linter.all false
set_option maxRecDepth 100000
set_option maxHeartbeats 4000000
/-! The pairs of a lot; its lack; a greatest dealing judged. -/
namespace Zc
open PySem L2 Zk
section
variable {caps : List Int} {hs : List (List Int)} {m : Nat}
theorem DealOk.deal {dl : List (Option Pr)} (ok : PoolOk caps hs m) (d : DealOk caps hs dl) : IsDeal caps hs dl where
  len := d.len
  held := fun p q e => by
    obtain ⟨h, h1, h2⟩ := d.held p q e
    have ha := ok.asc h (List.mem_of_getElem? h1)
    have := (heldP_mem ha q).mp h2
    have e2 : at_ hs (p : Int) = h := at_eq rfl h1
    rw [e2]
    exact ⟨this.2.2.1, this.1, this.2.1⟩
  room := fun q hq => by
    rcases d.room q with z | z
    · have := List.count_pos_iff.mpr hq
      omega
    · exact z
theorem IsDeal.ok {dl : List (Option Pr)} (ok : PoolOk caps hs m) (d : IsDeal caps hs dl) : DealOk caps hs dl where
  len := d.len
  held := fun p q e => by
    obtain ⟨h1, h2, h3⟩ := d.held p q e
    have hp : p < hs.length := by rw [← d.len]; exact (List.getElem?_eq_some_iff.mp e).1
    have hr := d.room q (List.mem_of_getElem? e)
    have hc := List.count_pos_iff.mpr (List.mem_of_getElem? e)
    exact ⟨_, hs_at hp, (heldP_mem (ok.asc _ (at_mem (by omega) (by omega))) q).mpr ⟨h2, h3, h1, by omega⟩⟩
  room := fun q => by
    by_cases hq : some q ∈ dl
    · exact .inr (d.room q hq)
    · exact .inl (List.count_eq_zero.mpr hq)
end
end Zc
end

section
set_option Elab.async false
set_option linter.all false
set_option maxRecDepth 100000
set_option maxHeartbeats 4000000
/-! Texts as lists of codes: what operations on them are worth as data. -/
namespace Zj
open PySem L2 Zk Zc
open SX (S)
/-- the text of these codes -/
def dS (l : List Nat) : D := .str (SX.S l)
def codes (s : String) : List Nat := s.toList.map Char.toNat
theorem lit (s : String) : D.str (Str.ofString s) = dS (codes s) := congrArg D.str (TL.ext_tl (TL.tl_ofString s))
theorem add_S {a b : List Nat} (h : a.length + b.length ≤ 100000) : addD (dS a) (dS b) = some (dS (a ++ b)) := by
  show (if (S a).length + (S b).length ≤ 100000 then some (D.str (S a ++ S b)) else none) = _
  rw [SX.S_len, SX.S_len, if_pos h, SX.S_cat] <;> rfl
def asc (a : List Nat) : Bool := a.all (· < 128)
theorem asc_mem {a : List Nat} (h : asc a = true) {c : Nat} (hc : c ∈ a) : c < 128 := of_decide_eq_true (List.all_eq_true.mp h c hc)
theorem asc_app {a b : List Nat} (ha : asc a = true) (hb : asc b = true) : asc (a ++ b) = true := by
  unfold asc at *
  rw [List.all_append, ha, hb] <;> rfl
theorem strOk_S {a : List Nat} (h : asc a = true) : PyData.strOk (S a) = true := by
  unfold PyData.strOk
  rw [← Array.all_toList]
  refine List.all_eq_true.mpr fun c hc => ?_
  have := asc_mem h hc
  simp
  omega
theorem eqB_S {a b : List Nat} (ha : asc a = true) (hb : asc b = true) : eqB (dS a) (dS b) = some (decide (a = b)) := by
  show (if SeqAt.shaped (.str (S a)) && SeqAt.shaped (.str (S b)) then some (PyData.eqv (.str (S a)) (.str (S b))) else none) = _
  have e : ∀ x : List Nat, asc x = true → SeqAt.shaped (.str (S x)) = true := fun x hx => by
    show (PyData.strOk (S x) && decide (0 ≤ 64)) = true
    rw [strOk_S hx] <;> rfl
  rw [e a ha, e b hb]
  show some (S a == S b) = _
  rw [SX.S_beq_eq]
theorem eq_S {a b : List Nat} (ha : asc a = true) (hb : asc b = true) : eqD (dS a) (dS b) = some (.bl (decide (a = b))) := by
  unfold eqD
  rw [eqB_S ha hb] <;> rfl
theorem ne_S {a b : List Nat} (ha : asc a = true) (hb : asc b = true) : neD (dS a) (dS b) = some (.bl (!decide (a = b))) := by
  unfold neD
  rw [eqB_S ha hb] <;> rfl
theorem tru_S {a : List Nat} (h : a.length ≤ 100000) : truD (dS a) = some (!a.isEmpty) := by
  show (if (S a).length ≤ 100000 then some (((S a).length : Int) != 0) else none) = _
  rw [SX.S_len, if_pos h]
  cases a with
  | nil => rfl
  | cons x a =>
    congr 1
theorem len_S {a : List Nat} (h : a.length ≤ 100000) : lenD [dS a] = some (.int (a.length : Nat)) := by
  show (if (S a).length ≤ 100000 then some (D.int ((S a).length : Nat)) else none) = _
  rw [SX.S_len, if_pos h]
/-! ### numbers -/
def num (c : Int) : List Nat := TL.numL c.toNat
theorem num_nat (n : Nat) : num (n : Int) = TL.numL n := by unfold num; rw [Int.toNat_natCast]
theorem log2_lt {n k : Nat} (hk : 0 < k) (h : n < 2 ^ k) : n.log2 < k := by
  by_cases h0 : n = 0
  · subst h0; exact hk
  · exact (Nat.log2_lt h0).mpr h
theorem num_len {c : Int} (h0 : 0 ≤ c) (h : c < 10 ^ 60) : (num c).length ≤ 60 := TL.numL_len (by decide) (by omega)
theorem num_ne (c : Int) : num c ≠ [] := TL.numL_ne _
theorem num_free {c : Int} {s : Nat} (h : s < 48 ∨ 57 < s) : s ∉ num c := TL.numL_free h
def dig (c : Nat) : Bool := decide (48 ≤ c) && decide (c ≤ 57)
theorem num_dig (c : Int) : (num c).all dig = true := List.all_eq_true.mpr fun x hx => by
  have := TL.numL_digits c.toNat x hx
  unfold dig
  rw [Bool.and_eq_true, decide_eq_true_eq, decide_eq_true_eq]
  exact this
theorem num_zero {c : Int} (h0 : 0 ≤ c) (h : (num c).head? = some 48) : c = 0 := by
  obtain ⟨n, rfl⟩ := Int.eq_ofNat_of_zero_le h0
  rw [num_nat] at h
  have key : ∀ n : Nat, (TL.numL n).head? = some 48 → n = 0 := fun n => by
    induction n using Nat.strongRecOn with
    | _ n ih =>
      intro h
      by_cases h10 : n < 10
      · rw [TL.numL_lt h10] at h
        simp at h
        exact h
      · rw [TL.numL_step (by omega), List.head?_append] at h
        cases e : (TL.numL (n / 10)).head? with
        | none => exact absurd (List.head?_eq_none_iff.mp e) (TL.numL_ne _)
        | some x =>
          rw [e] at h
          have hx : x = 48 := by simpa using h
          have := ih (n / 10) (by omega) (by rw [e, hx])
          omega
  rw [key n h]
  rfl
theorem isDigit_asc {c : Nat} (h : c < 128) : Unicode.isDigit c = dig c := by
  rw [PyProof.Rows.cls_isdigit c h]
  revert c
  decide +kernel
theorem isdigit_S {a : List Nat} (h : ∀ c ∈ a, c < 128) : isdigitD (S a) = some (.bl (!a.isEmpty && a.all dig)) := by
  show some (D.bl (decide ((S a).length > 0) && (S a).cps.all Unicode.isDigit)) = _
  rw [SX.S_len, ← Array.all_toList]
  show some (D.bl (decide (a.length > 0) && a.all Unicode.isDigit)) = _
  have e1 : a.all Unicode.isDigit = a.all dig := by
    rw [Bool.eq_iff_iff, List.all_eq_true, List.all_eq_true]
    exact ⟨fun q x hx => by rw [← isDigit_asc (h x hx)]; exact q x hx, fun q x hx => by rw [isDigit_asc (h x hx)]; exact q x hx⟩
  rw [e1]
  cases a with
  | nil => rfl
  | cons x a => simp
theorem starts_S (a b : List Nat) : startsD (S a) (dS b) = some (.bl (decide (a.take b.length = b))) := by
  show some (D.bl (decide (0 + (S b).length ≤ (S a).length) && Builtin.Str.subAt (S a) (S b) 0)) = _
  rw [SX.S_len, SX.S_len, StrLaws.subAt_eq, SX.S_len, Nat.zero_add]
  show some (D.bl (decide (b.length ≤ a.length) && (((a.drop 0).take b.length) == b))) = _
  rw [List.drop_zero]
  congr 2
  by_cases e : a.take b.length = b
  · have : b.length ≤ a.length := by
      have := congrArg List.length e
      rw [List.length_take] at this
      omega
    rw [decide_eq_true this, decide_eq_true e, e]
    simp
  · rw [decide_eq_false e]
    have : (a.take b.length == b) = false := by
      cases z : (a.take b.length == b) with
      | false => rfl
      | true => exact absurd (eq_of_beq z) e
    rw [this, Bool.and_false]
/-- a word that is a number: digits, and no 0 ahead of others -/
def isNum (a : List Nat) : Bool := (!a.isEmpty && a.all dig) && (decide (a = [48]) || !decide (a.take 1 = [48]))
theorem isNum_num {c : Int} (h0 : 0 ≤ c) : isNum (num c) = true := by
  unfold isNum
  rw [num_dig]
  have e1 : (num c).isEmpty = false := by
    cases e : num c with
    | nil => exact absurd e (num_ne c)
    | cons x a => rfl
  rw [e1]
  by_cases e : (num c).take 1 = [48]
  · have hc : c = 0 := num_zero h0 (by
      cases q : num c with
      | nil => exact absurd q (num_ne c)
      | cons x a => rw [q] at e; simpa using e)
    rw [hc]
    decide
  · rw [decide_eq_false e]
    simp
/-! ### split, join, slices, partition -/
theorem sL_S (ls : List (List Nat)) : sL (ls.map S) = ls.map dS := by unfold sL; rw [List.map_map]; rfl
theorem split_S {a b : List Nat} (hb : b ≠ []) (hk : b.all (· < 256) = true) (h : a.length ≤ 100000) : splitD (S a) (dS b) = some (.lst ((TL.spl b 0 [] a).map dS)) := by
  show (if ((S b).length == 0) = false ∧ (S a).length ≤ 100000 then some (D.lst (sL (Txt.split (S a) (S b)))) else none) = _
  rw [SX.S_len, SX.S_len, if_pos ⟨by cases b with | nil => exact absurd rfl hb | cons x b => rfl, h⟩, SX.split_S hb hk, sL_S]
theorem asStrs_S : ∀ ls : List (List Nat), asStrs (ls.map dS) = some (ls.map S)
  | [] => rfl
  | l :: ls => by
    show (asStrs (ls.map dS)).map (S l :: ·) = _
    rw [asStrs_S ls] <;> rfl
theorem join_S {a : List Nat} {ls : List (List Nat)} (h : (ls.map List.length).sum + ls.length * a.length ≤ 100000) : joinD (S a) (.lst (ls.map dS)) = some (dS (TL.joinL a ls)) := by
  show ((asStrs (ls.map dS)).bind fun ys => if (ys.map (·.length)).sum + ys.length * (S a).length ≤ 100000 then some (D.str (Txt.join (S a) ys)) else none) = _
  rw [asStrs_S, Option.bind_some, SX.lens, List.length_map, SX.S_len, if_pos h, SX.join_S] <;> rfl
theorem joinL_nil : ∀ ls : List (List Nat), TL.joinL [] ls = ls.flatten
  | [] => rfl
  | [p] => by show p = [p].flatten; simp
  | p :: q :: r => by
    show p ++ ([] ++ TL.joinL [] (q :: r)) = _
    rw [joinL_nil (q :: r)]
    rfl
theorem at_nat {α : Type} {a : List α} {n : Nat} (hn : n < a.length) : atI a (n : Int) = some a[n] := by
  unfold atI
  have e : ixN a.length (n : Int) = some n := by
    unfold ixN
    rw [if_pos (by omega), Int.toNat_natCast] <;> simp [hn]
  rw [e]
  exact List.getElem?_eq_getElem hn
theorem ixS {a : List Nat} {i : Int} (ha : a.length ≤ 100000) (h0 : 0 ≤ i) (h : i < (a.length : Nat)) : ixD (dS a) (.int i) = some (dS [a.getD i.toNat 0]) := by
  show (if (S a).length ≤ 100000 then (atI (S a).cps.toList i).map fun c => D.str ⟨#[c]⟩ else none) = _
  rw [SX.S_len, if_pos ha]
  have e : atI (S a).cps.toList i = some (a.getD i.toNat 0) := by
    show atI a i = _
    obtain ⟨n, rfl⟩ := Int.eq_ofNat_of_zero_le h0
    have hn : n < a.length := by omega
    rw [Int.toNat_natCast, List.getD_eq_getElem?_getD, List.getElem?_eq_getElem hn]
    show atI a (n : Int) = some a[n]
    exact at_nat hn
  rw [e]
  rfl
/-! ### walking -/
def apM0 (f : Str → Option D) : Option D → Option D := fun x => x.bind fun x => match x with
  | .str s => f s
  | _ => none
def apM1 (f : Str → D → Option D) : Option D → Option D → Option D := fun x y => x.bind fun x => match x with
  | .str s => y.bind fun y => f s y
  | _ => none
theorem dM0_a {f : Str → Option D} {a : DF} {g : Gm} : dM0 f a g = apM0 f (a g) := rfl
theorem dM1_a {f : Str → D → Option D} {a b : DF} {g : Gm} : dM1 f a b g = apM1 f (a g) (b g) := rfl
theorem apM0_S {f : Str → Option D} {l : List Nat} : apM0 f (some (dS l)) = f (S l) := rfl
theorem apM1_S {f : Str → D → Option D} {l : List Nat} {y : D} : apM1 f (some (dS l)) (some y) = f (S l) y := rfl
def apStar (n i : Nat) (r : DGFs) (x : Option D) : SF := fun g => x.bind fun x => match x with
  | .lst ds => if n ≤ ds.length + 1 ∧ ds.length ≤ 16384 then (r (ds.take i ++ [.lst ((ds.drop i).take (ds.length + 1 - n))] ++ (ds.drop i).drop (ds.length + 1 - n)) g).map .nx else none
  | _ => none
theorem sStar_a {a : DF} {n i : Nat} {r : DGFs} {g : Gm} : sStar a n i r g = apStar n i r (a g) g := rfl
end Zj
end

section
set_option Elab.async false
set_option linter.all false
set_option maxRecDepth 100000
set_option maxHeartbeats 4000000
/-! The texts of pools. -/
namespace Zd
open PySem L2 Zk Zc Zj
def t_is_number : SF :=
 (sRet (dAndV (Zj.dM0 Zj.isdigitD (dVar 0)) (dOrV (d2 eqD (dVar 0) (dC (.str "0"))) (d1 notD (Zj.dM1 Zj.startsD (dVar 0) (dC (.str "0")))))))
def g_is_number : PF := runG 0 (t_is_number)
local macro_rules | `(tactic| walk_at "zs") => `(tactic| simp only [beq_self_eq_true, Bool.or_false, Bool.false_or, Bool.true_or, Bool.or_true, Bool.and_false, Bool.false_and, Bool.true_and, Bool.and_true, Zc.isi_ii, Zc.isi_ib, Zc.isi_tt, Zc.isi_ll, Zc.rowsT_len, Zc.rowsL_len, Zc.is_integer_call, Zc.ix_p0, Zc.ix_p1, dgTup2_a, dgTup3_a, Bool.not_true, Bool.not_false, mul_lz, List.flatten_cons, List.flatten_nil, Int.reduceToNat, add_ll, pow10_12, pow10_18, pow10_39, pow10_41, pow10_59, pow10_60, mkLst_some, mkTup_some, List.length_cons, List.length_nil, Nat.zero_le, Nat.reduceAdd, Nat.reduceLeDiff, call1, callO1, call2, callO2, call3, callO3, call4, callO4, call5, callO5, call6, callO6, ap1_some, ap2_some, apN_some, apC_some, d1_a, d2_a, dN_a, aNil_a, aCons_a, dC_a, dVar_z, dVar_s, tDt_a, apAnd_t, apAnd_f, apOr_t, apOr_f, dAndT_a, dOrT_a, apNot_some, dNotT_a, apAndV_t, apAndV_f, dAndV_a, apOrV_t, apOrV_f, dOrV_a, apIf_t, apIf_f, dIf_a, apCh_t, apCh_f, apChain_some, dChain_a, apSeq_nx, apSeq_rt, apSeq_ct, apSeq_bk, sSeq_a, apIfS_t, apIfS_f, sIf_a, sNext_a, sCont_a, sBreak_a, apRet_some, sRet_a, apRetO_some, sRetO_a, sRetN_a, getO_z, getO_s, apRetV_some, sRetV_a, ltB_z, ltB_s, okSlot_s, apAsg_some, sAsg_a, dName_ok, apG_some, dgCons_a, dgNil_a, apAsgO_some, sAsgO_a, sApp_a, sSetI_a, apFor_some, sFor_a, dItems_a, dRng1_a, dRng2_a, apEn_some, apEn_tup, dEnum_a, sFrz_a, frzs_nil, frzs_cons, frzI_o, frzI_v, frzI_n, frzI_s, frz1_s, frzAll_nil, frzAll_o, frzAll_v, frzAll_n, peekT_a, apPk_int, apPk_bl, apPk_str, apPk_non, peekF_a, dCall_a, toO_o, dCallO_a, dMake_a, Wd_v, Wd_o, dSl_a, apSl_some, oNone_a, oSome_a, apO_some, add_ii, sub_ii, lt_ii, le_ii, gt_ii, ge_ii, eq_ii, ne_ii, neg_i, not_b, bl_b, tru_b, tru_i, tru_l, tru_t, tru_n, len_l, len_t, len_scr, abs_i, int_i, list_l, list_t, tuple_l, tuple_t, min_ii, max_ii, rev_l, items_l, items_t, iL_len, run_a, outW_rt, outW_nx, List.map_cons, List.map_nil, List.replicate, List.append_nil, List.cons_append, List.nil_append, List.set_cons_zero, List.set_cons_succ, Option.map_some])
local macro_rules | `(tactic| walk_at "zd") => `(tactic| first | ((with_reducible show okSlot _ _ = true); simp only [okSlot_s, ltB_z, ltB_s]; done) | omega | assumption | decide | (simp only [List.length_map, List.length_append, List.length_cons, List.length_nil, List.length_range, List.length_set, List.length_reverse, iL_len, Zc.rowsT_len, Zc.rowsL_len] at *; omega))
local macro_rules | `(tactic| walk_at "zz") => `(tactic| simp (disch := walk_at "zd") only [dgTup2_a, dgTup3_a, Bool.not_true, Bool.not_false, mul_lz, List.flatten_cons, List.flatten_nil, Int.reduceToNat, add_ll, pow10_12, pow10_18, pow10_39, pow10_41, pow10_59, pow10_60, mkLst_some, mkTup_some, List.length_cons, List.length_nil, Nat.zero_le, Nat.reduceAdd, Nat.reduceLeDiff, call1, callO1, call2, callO2, call3, callO3, call4, callO4, call5, callO5, call6, callO6, ap1_some, ap2_some, apN_some, apC_some, d1_a, d2_a, dN_a, aNil_a, aCons_a, dC_a, dVar_z, dVar_s, tDt_a, apAnd_t, apAnd_f, apOr_t, apOr_f, dAndT_a, dOrT_a, apNot_some, dNotT_a, apAndV_t, apAndV_f, dAndV_a, apOrV_t, apOrV_f, dOrV_a, apIf_t, apIf_f, dIf_a, apCh_t, apCh_f, apChain_some, dChain_a, apSeq_nx, apSeq_rt, apSeq_ct, apSeq_bk, sSeq_a, apIfS_t, apIfS_f, sIf_a, sNext_a, sCont_a, sBreak_a, apRet_some, sRet_a, apRetO_some, sRetO_a, sRetN_a, getO_z, getO_s, apRetV_some, sRetV_a, ltB_z, ltB_s, okSlot_s, apAsg_some, sAsg_a, dName_ok, apG_some, dgCons_a, dgNil_a, apAsgO_some, sAsgO_a, sApp_a, sSetI_a, apFor_some, sFor_a, dItems_a, dRng1_a, dRng2_a, apEn_some, apEn_tup, dEnum_a, sFrz_a, frzs_nil, frzs_cons, frzI_o, frzI_v, frzI_n, frzI_s, frz1_s, frzAll_nil, frzAll_o, frzAll_v, frzAll_n, peekT_a, apPk_int, apPk_bl, apPk_str, apPk_non, peekF_a, dCall_a, toO_o, dCallO_a, dMake_a, Wd_v, Wd_o, dSl_a, apSl_some, oNone_a, oSome_a, apO_some, add_ii, sub_ii, lt_ii, le_ii, gt_ii, ge_ii, eq_ii, ne_ii, neg_i, not_b, bl_b, tru_b, tru_i, tru_l, tru_t, tru_n, len_l, len_t, len_scr, abs_i, int_i, list_l, list_t, tuple_l, tuple_t, min_ii, max_ii, rev_l, items_l, items_t, iL_len, run_a, outW_rt, outW_nx, List.map_cons, List.map_nil, List.replicate, List.append_nil, List.cons_append, List.nil_append, List.set_cons_zero, List.set_cons_succ, Option.map_some, Int.reduceAdd, Int.reduceMul, Int.reduceSub, Int.reduceNeg, beq_self_eq_true, Bool.or_false, Bool.false_or, Bool.true_or, Bool.or_true, Bool.and_false, Bool.false_and, Bool.true_and, Bool.and_true, Zc.isi_ii, Zc.isi_ib, Zc.isi_tt, Zc.isi_ll, Zc.rowsT_len, Zc.rowsL_len, Zc.is_integer_call, Zc.ix_p0, Zc.ix_p1, apR1_any, Int.toNat_natCast, apR2_some, mod_ii, fdiv_ii, mul_small, apApp_some, ix_at, ix_atT, ix_atI, ix_atIT, ix_atR, ix_atRT, List.length_map, List.length_append, List.length_range, List.length_set, Option.map_none, Option.map_map, decide_true, decide_false, peekO_a, apPkO_i, frz_wo, frz_wv, frz_kk, wipeG_nil, wipeG_cons, orB_s, orB_t, orB_f, andB_s, andB_t, andB_f, orV_s, orV_t, orV_f, andV_s, andV_t, andV_f, apOr_b, apAnd_b, apOrV_b, apAndV_b, apCh_b, Zc.cut_from, Zc.cut_to, in_l, in_t, in_pr, eq_op_op, eq_op_pr, eq_pr_op, eq_pr_pr, ne_op_op, ne_op_pr, ne_pr_op, ne_pr_pr, isnt_op, is_op, pr_0, pr_1, st_0, st_1, inP_pr, ninP_pr, nin_l, isi_prt, len_pr, op_some, prD_eq, ix_lit2, ix_lit3, ix_lit4, ix_lit5, ix_lit6, ix_lit7, ix_lit8, ix_lit9, ix_lit10, ix_lit11, ix_lit12, ix_lit13, ix_lit14, ix_lit15, setI_i, setI_p, setI_o, setI_n, snoc_i, snoc_r, snoc_p, snoc_n, snoc_o, snoc_pp, snoc_s, eq_ol, ne_ol, eq_pl, ne_pl, eq_sl, ne_sl, eq_il, ne_il, eq_rl, ne_rl, eq_il1, isi_bb, eq_bb, ne_bb, eq_self, lit, dM1_a, apM1_S, dM0_a, apM0_S])
local macro_rules | `(tactic| walk_at "zf") => `(tactic| first | (walk_at "zz"; done) | (walk_at "zz"; rfl) | rfl)
local macro_rules | `(tactic| walk_at "lc") => `(tactic| ((case hf => rfl); (case hi => first | (walk_at "zz"; done) | (walk_at "zz"; rfl) | rfl); (case hl => walk_at "zd"); (case h => (intro a ha; refine ⟨_, dName_ok rfl, ?_, fun hT => ?_⟩ <;> walk_at "zz" <;> rfl))))
local macro_rules | `(tactic| walk_at "lm") => `(tactic| ((case hf => rfl); (case hi => first | (walk_at "zz"; done) | (walk_at "zz"; rfl) | rfl); (case hl => walk_at "zd"); (case h => (intro a ha; refine ⟨_, dName_ok rfl, ?_⟩; walk_at "zz"; rfl))))
def wSeats : List Nat := codes "seats"
def wPiece : List Nat := codes "piece"
def NumsOk (ns : List Int) : Prop := ns.length ≤ 100 ∧ ∀ n ∈ ns, 0 ≤ n ∧ n < 10 ^ 60
theorem dig_asc {a : List Nat} (h : a.all dig = true) : asc a = true := List.all_eq_true.mpr fun c hc => by
  have := List.all_eq_true.mp h c hc
  unfold dig at this
  rw [Bool.and_eq_true, decide_eq_true_eq, decide_eq_true_eq] at this
  rw [decide_eq_true_eq]
  omega
theorem num_asc (c : Int) : asc (num c) = true := dig_asc (num_dig c)
/-! ### one line -/
/-! ### the text as the law lays it -/
structure TextOk (caps : List Int) (hs : List (List Int)) : Prop where
  c : NumsOk caps
  hl : hs.length ≤ 100
  h : ∀ h ∈ hs, NumsOk h ∧ h.length ≤ 12
  cl : caps.length ≤ 12
/-! ### the text as the program writes it -/
/-! ### numbers behind a word -/
theorem is_number_spec {a : List Nat} (ha : asc a = true) : g_is_number [dS a] = some (.v (.bl (isNum a))) := by
  unfold g_is_number t_is_number
  walk_at "zz"
  rw [isdigit_S fun c hc => asc_mem ha hc]
  have e1 : eqD (dS a) (dS (codes "0")) = some (.bl (decide (a = [48]))) := eq_S ha (by decide)
  have e2 : startsD (SX.S a) (dS (codes "0")) = some (.bl (decide (a.take 1 = [48]))) := starts_S a [48]
  unfold isNum
  cases (!a.isEmpty && a.all dig)
  · walk_at "zz"
  · walk_at "zz"
    rw [e1]
    cases decide (a = [48])
    · walk_at "zz"
      rw [e2]
      walk_at "zz"
    · walk_at "zz"
def val (a : List Nat) : Int := ((NumText.digitsVal a : Nat) : Int)
theorem val_num {c : Int} (h0 : 0 ≤ c) : val (num c) = c := by
  unfold val num
  rw [TL.numL_val]
  exact Int.toNat_of_nonneg h0
theorem intS_val {a : List Nat} (h : isNum a = true) (hl : a.length ≤ 640) : intSD [dS a] = some (.int (val a)) := by
  unfold isNum at h
  rw [Bool.and_eq_true, Bool.and_eq_true] at h
  show (if (SX.S a).length ≤ 640 then (intText? (SX.S a)).map D.int else none) = _
  rw [SX.S_len, if_pos hl, SX.int_S h.1.2 (by intro z; rw [z] at h; exact absurd h.1.1 (by decide)) (by omega)]
  rfl
end Zd
end

section
set_option Elab.async false
set_option linter.all false
set_option maxRecDepth 100000
set_option maxHeartbeats 4000000
/-! Texts as lists of codes: slices, joins of single signs, fields. -/
namespace Zj
open PySem L2 Zk Zc
theorem sl_to {a : List Nat} {i : Int} (h : a.length ≤ 100000) (h0 : 0 ≤ i) : slSD (dS a) none (some i) = some (dS (a.take i.toNat)) := by
  show (if (SX.S a).length ≤ 100000 then some (D.str (Txt.slice (SX.S a) none (some i))) else none) = _
  rw [SX.S_len, if_pos h, SX.slice_to h0]
  rfl
theorem sl_from {a : List Nat} {i : Int} (h : a.length ≤ 100000) (h0 : 0 ≤ i) : slSD (dS a) (some i) none = some (dS (a.drop i.toNat)) := by
  show (if (SX.S a).length ≤ 100000 then some (D.str (Txt.slice (SX.S a) (some i) none)) else none) = _
  rw [SX.S_len, if_pos h, SX.slice_from h0]
  rfl
theorem in_S (a : List Nat) (c : Nat) : onT inTf (dS [c]) (dS a) = some (.bl (decide (c ∈ a))) := by
  show some (D.bl (inTf (SX.S [c]) (SX.S a))) = _
  unfold inTf
  rw [SX.in_one]
theorem nin_S (a : List Nat) (c : Nat) : onT ninTf (dS [c]) (dS a) = some (.bl (!decide (c ∈ a))) := by
  show some (D.bl (ninTf (SX.S [c]) (SX.S a))) = _
  unfold ninTf
  rw [SX.in_one]
def apSl : Option D → Option (Option Int) → Option (Option Int) → Option D := fun x l h => x.bind fun x => l.bind fun l => h.bind fun h => slSD x l h
theorem dSlS_w {a : DF} {lo hi : DOF} {g : Gm} : dSlS a lo hi g = apSl (a g) (lo g) (hi g) := rfl
theorem apSl_s {x : D} {l h : Option Int} : apSl (some x) (some l) (some h) = slSD x l h := rfl
theorem joins_sum {b : Nat} : ∀ {ws : List (List Nat)}, (∀ p ∈ ws, p.length ≤ b) → (ws.map List.length).sum ≤ ws.length * b
  | [], _ => Nat.zero_le _
  | p :: ws, h => by
    have h1 := h p List.mem_cons_self
    have h2 := joins_sum (ws := ws) fun q hq => h q (List.mem_cons_of_mem _ hq)
    rw [List.map_cons, List.sum_cons, List.length_cons, Nat.succ_mul]
    omega
theorem flat_one : ∀ l : List Nat, (l.map fun c => [c]).flatten = l
  | [] => rfl
  | c :: l => congrArg (c :: ·) (flat_one l)
/-- single signs, joined -/
theorem join_signs {l : List Nat} (h : l.length ≤ 50000) : joinD (SX.S []) (.lst (l.map fun c => dS [c])) = some (dS l) := by
  have e : (l.map fun c => dS [c]) = (l.map fun c => [c]).map dS := by rw [List.map_map]; rfl
  have hs := joins_sum (ws := l.map fun c => [c]) (b := 1) fun p hp => by
    obtain ⟨c, _, rfl⟩ := List.mem_map.mp hp
    exact Nat.le_refl _
  rw [List.length_map] at hs
  rw [e, join_S (by rw [List.length_map]; show _ + _ * 0 ≤ _; omega), joinL_nil]
  refine congrArg (fun z => some (dS z)) ?_
  exact flat_one l
/-! ### fields of f-strings -/
theorem fmt_S {l : List Nat} (h : l.length ≤ 100000) : fmtD (dS l) = some (dS l) := by
  show (if (SX.S l).length ≤ 100000 then some (D.str (SX.S l)) else none) = _
  rw [SX.S_len, if_pos h] <;> rfl
def apJs : List (Option D) → List Nat → Option (List Nat)
  | [], acc => some acc
  | x :: xs, acc => x.bind fun x => match x with
    | .str y => if (acc ++ y.cps.toList).length ≤ 100000 then apJs xs (acc ++ y.cps.toList) else none
    | _ => none
theorem str_S (y : Str) : SX.S y.cps.toList = y := TL.ext_tl rfl
theorem dJs_ap : ∀ (ts : List DF) (acc : List Nat) (g : Gm), dJs ts (SX.S acc) g = (apJs (ts.map fun t => t g) acc).map SX.S
  | [], acc, g => rfl
  | t :: ts, acc, g => by
    unfold dJs
    rw [List.map_cons]
    unfold apJs
    cases t g with
    | none => rfl
    | some x =>
      rw [Option.bind_some, Option.bind_some]
      cases x with
      | str y =>
        have e : SX.S acc ++ y = SX.S (acc ++ y.cps.toList) := by
          have := SX.S_cat acc y.cps.toList
          rw [str_S] at this
          exact this
        simp only
        rw [e, SX.S_len]
        split
        · exact dJs_ap ts _ g
        · rfl
      | _ => rfl
theorem dJoin_a {ts : List DF} {g : Gm} : dJoin ts g = (apJs (ts.map fun t => t g) []).map dS := by
  unfold dJoin
  rw [show Str.empty = SX.S [] from rfl, dJs_ap, Option.map_map]
  rfl
theorem apJs_cons {l acc : List Nat} {xs : List (Option D)} (h : (acc ++ l).length ≤ 100000) : apJs (some (dS l) :: xs) acc = apJs xs (acc ++ l) := if_pos h
theorem apJs_nil {acc : List Nat} : apJs [] acc = some acc := rfl
/-! ### numbers that are written with signs ahead -/
end Zj
end

section
set_option Elab.async false
set_option linter.all false
set_option maxRecDepth 100000
set_option maxHeartbeats 4000000
/-! Records read: what the program's reading is worth, for any text of ASCII signs. -/
namespace Rk
open PySem L2 Zk Zc Zj Zd
def t_is_name : SF :=
 (sRet (dAndV (dChain leD leD (dC (.int 1)) (dN lenD (aCons (dVar 0) aNil)) (dC (.int 12))) (dN allD (aCons (dLc (Zra.dTxt (dVar 0)) (dName 1) dYes (dOrV (dChain (Zj.onT Zj.leTf) (Zj.onT Zj.leTf) (dC (.str "a")) (dVar 1) (dC (.str "z"))) (dChain (Zj.onT Zj.leTf) (Zj.onT Zj.leTf) (dC (.str "0")) (dVar 1) (dC (.str "9")))) [1]) aNil))))
def g_is_name : PF := runG 1 (t_is_name)
def t_is_number : SF :=
 (sRet (dAndV (Zj.dM0 Zj.isdigitD (dVar 0)) (dOrV (d2 eqD (dVar 0) (dC (.str "0"))) (d1 notD (Zj.dM1 Zj.startsD (dVar 0) (dC (.str "0")))))))
def g_is_number : PF := runG 0 (t_is_number)
def t_read_joined : SF :=
 (sSeq (sAsg (Zj.dM1 Zj.splitD (dVar 0) (dC (.str ","))) (dName 1))
 (sRet (dIf (tDt truD (dN allD (aCons (dLc (dItems (dVar 1)) (dName 2) dYes (dCall 1 (g_is_number) (aCons (dVar 2) aNil)) [2]) aNil))) (dLc (dItems (dVar 1)) (dName 2) dYes (dN Zj.intSD (aCons (dVar 2) aNil)) [2]) (dC .non))))
def g_read_joined : PF := runG 2 (t_read_joined)
def t_rise : SF :=
 (sRet (dN allD (aCons (dLc (Zq9.dZip (aCons (dVar 0) (aCons (dSl (dVar 0) (oSome (dC (.int 1))) oNone) aNil))) (dgTup 2 (dgCons (dName 1) (dgCons (dName 2) dgNil))) dYes (d2 Zra.ltA (dVar 1) (dVar 2)) [1, 2]) aNil)))
def g_rise : PF := runG 2 (t_rise)
def t_count : SF :=
 (sRet (dCall 1 (g_rise) (aCons (d2 addD (dN mkLst (aCons (dC (.int 0)) aNil)) (dVar 0)) aNil)))
def g_count : PF := runG 0 (t_count)
def t_read_name : SF :=
 (sSeq (sAsg (Zj.dM1 Zj.partD (dVar 0) (dC (.str "="))) (dgTup 3 (dgCons (dName 1) (dgCons (dName 2) (dgCons (dName 3) dgNil)))))
 (sSeq (sAsg (dIf (tDt truD (dVar 3)) (dCall 1 (g_read_joined) (aCons (dVar 3) aNil)) (dN mkLst aNil)) (dName 4))
 (sSeq (sIf (dOrT (dNotT (tDt truD (dCall 1 (g_is_name) (aCons (dVar 1) aNil)))) (dOrT (dNotT (tDt truD (dVar 2))) (dOrT (tDt blD (d2 isD (dVar 4) (dC .non))) (dNotT (tDt truD (dCall 1 (g_count) (aCons (dVar 4) aNil)))))))
 (sRet (dC .non))
 sNext)
 (sRet (dN mkTup (aCons (dVar 1) (aCons (dN tupleD (aCons (dVar 4) aNil)) aNil)))))))
def g_read_name : PF := runG 4 (t_read_name)
def t_read_warden : SF :=
 (sSeq (sAsg (Zj.dM1 Zj.partD (dVar 0) (dC (.str ":"))) (dgTup 3 (dgCons (dName 1) (dgCons (dName 2) (dgCons (dName 3) dgNil)))))
 (sSeq (sAsg (dCall 1 (g_read_joined) (aCons (dVar 3) aNil)) (dName 4))
 (sSeq (sIf (dOrT (dNotT (tDt truD (dCall 1 (g_is_number) (aCons (dVar 1) aNil)))) (dOrT (tDt blD (d2 isD (dVar 4) (dC .non))) (dOrT (tDt blD (d2 neD (dN lenD (aCons (dVar 4) aNil)) (dC (.int 2)))) (dNotT (tDt truD (dCall 1 (g_rise) (aCons (dVar 4) aNil)))))))
 (sRet (dC .non))
 sNext)
 (sRet (dN mkTup (aCons (dN Zj.intSD (aCons (dVar 1) aNil)) (aCons (d2 ixD (dVar 4) (dC (.int 0))) (aCons (d2 ixD (dVar 4) (dC (.int 1))) aNil))))))))
def g_read_warden : PF := runG 4 (t_read_warden)
def t_read_wardens : SF :=
 (sSeq (sIf (dOrT (dNotT (tDt truD (dVar 0))) (tDt blD (d2 neD (d2 ixD (dVar 0) (dC (.int 0))) (dC (.str "/")))))
 (sRet (dC .non))
 sNext)
 (sSeq (sAsg (dLc (dItems (dSl (dVar 0) (oSome (dC (.int 1))) oNone)) (dName 2) dYes (dCall 1 (g_read_warden) (aCons (dVar 2) aNil)) [2]) (dName 1))
 (sSeq (sIf (dOrT (tDt blD (d2 inPD (dC .non) (dVar 1))) (dNotT (tDt truD (dCall 1 (g_count) (aCons (dLc (dItems (dVar 1)) (dgTup 3 (dgCons (dName 3) (dgCons (dName 4) (dgCons (dName 4) dgNil)))) dYes (dVar 3) [3, 4]) aNil)))))
 (sRet (dC .non))
 sNext)
 (sRet (dN tupleD (aCons (dVar 1) aNil))))))
def g_read_wardens : PF := runG 4 (t_read_wardens)
def t_read_put : SF :=
 (sSeq (sAsg (dIf (tDt truD (dVar 0)) (dCall 1 (g_read_name) (aCons (d2 ixD (dVar 0) (dC (.int 0))) aNil)) (dC .non)) (dName 1))
 (sSeq (sAsg (dCall 1 (g_read_wardens) (aCons (dSl (dVar 0) (oSome (dC (.int 1))) oNone) aNil)) (dName 2))
 (sRet (dIf (dOrT (tDt blD (d2 isD (dVar 1) (dC .non))) (tDt blD (d2 isD (dVar 2) (dC .non)))) (dC .non) (dN mkTup (aCons (dC (.str "put")) (aCons (d2 ixD (dVar 1) (dC (.int 0))) (aCons (d2 ixD (dVar 1) (dC (.int 1))) (aCons (dVar 2) aNil)))))))))
def g_read_put : PF := runG 2 (t_read_put)
theorem e_is_number : g_is_number = Zd.g_is_number := rfl
theorem is_nn : isD .non .non = some (.bl true) := rfl
theorem is_tn (xs : List D) : isD (.tup xs) .non = some (.bl false) := rfl
theorem is_ln (xs : List D) : isD (.lst xs) .non = some (.bl false) := rfl
/-! ### a text cut at a sign -/
abbrev L := List Nat
abbrev Ws := List (List Nat)
def cut (c : Nat) : L → L × Option L
  | [] => ([], none)
  | x :: r => if x = c then ([], some r) else (x :: (cut c r).1, (cut c r).2)
theorem cut_app {c : Nat} : ∀ {p : L} (q : L), c ∉ p → cut c (p ++ c :: q) = (p, some q)
  | [], q, _ => if_pos rfl
  | x :: p, q, h => by
    have h1 : ¬ x = c := fun z => h (by rw [z]; exact List.mem_cons_self)
    show (if x = c then _ else (x :: (cut c (p ++ c :: q)).1, (cut c (p ++ c :: q)).2)) = _
    rw [if_neg h1, cut_app q fun z => h (List.mem_cons_of_mem _ z)]
theorem cut_free {c : Nat} : ∀ {p : L}, c ∉ p → cut c p = (p, none)
  | [], _ => rfl
  | x :: p, h => by
    have h1 : ¬ x = c := fun z => h (by rw [z]; exact List.mem_cons_self)
    show (if x = c then _ else (x :: (cut c p).1, (cut c p).2)) = _
    rw [if_neg h1, cut_free fun z => h (List.mem_cons_of_mem _ z)]
theorem first_at {c : Nat} : ∀ {a : L}, c ∈ a → ∃ p q, a = p ++ c :: q ∧ c ∉ p
  | x :: r, h => by
    by_cases e : x = c
    · exact ⟨[], r, by rw [e]; rfl, by simp⟩
    · obtain ⟨p, q, h1, h2⟩ := first_at (a := r) (by rcases List.mem_cons.mp h with z | z; exact absurd z.symm e; exact z)
      refine ⟨x :: p, q, by rw [h1]; rfl, fun z => ?_⟩
      rcases List.mem_cons.mp z with z | z
      · exact e z.symm
      · exact h2 z
theorem cut_or (c : Nat) (a : L) : (∃ p q, a = p ++ c :: q ∧ c ∉ p ∧ cut c a = (p, some q)) ∨ (c ∉ a ∧ cut c a = (a, none)) := by
  by_cases h : c ∈ a
  · obtain ⟨p, q, h1, h2⟩ := first_at h
    exact .inl ⟨p, q, h1, h2, by rw [h1]; exact cut_app q h2⟩
  · exact .inr ⟨h, cut_free h⟩
theorem part_S {c : Nat} {a : L} (h : a.length ≤ 100000) : partD (SX.S a) (dS [c]) = some (.tup [dS (cut c a).1, dS (if (cut c a).2.isSome = true then [c] else []), dS ((cut c a).2.getD [])]) := by
  show (if ((SX.S [c]).length == 0) = false ∧ (SX.S a).length ≤ 100000 then some (D.tup [.str (Txt.partition (SX.S a) (SX.S [c])).1, .str (Txt.partition (SX.S a) (SX.S [c])).2.1, .str (Txt.partition (SX.S a) (SX.S [c])).2.2]) else none) = _
  rw [SX.S_len, if_pos ⟨rfl, by rw [SX.S_len]; exact h⟩]
  rcases cut_or c a with ⟨p, q, h1, h2, h3⟩ | ⟨h1, h3⟩
  · rw [h3]
    have e := SX.partition_some (a := a) (b := [c]) (by simp) (by rw [h1]; exact SX.par_head q h2)
    rw [e]
    rfl
  · rw [h3]
    have e := SX.partition_none (a := a) (b := [c]) (by simp) (SX.par_head_none h1)
    rw [e]
    rfl
/-- the parts between the signs c -/
def sp (c : Nat) (a : L) : Ws := TL.spl [c] 0 [] a
theorem sp_S {c : Nat} {a : L} (hc : c < 256) (h : a.length ≤ 100000) : splitD (SX.S a) (dS [c]) = some (.lst ((sp c a).map dS)) :=
  split_S (by simp) (by simp [hc]) h
theorem sp_app {c : Nat} {p : L} (q : L) (h : c ∉ p) : sp c (p ++ c :: q) = p :: sp c q := SX.spl_free q (by simp) (SX.free_head h)
theorem sp_free {c : Nat} {p : L} (h : c ∉ p) : sp c p = [p] := by
  have := TL.spl_last1 (S := []) (acc := []) h
  rw [List.nil_append] at this
  exact this
theorem sp_join {c : Nat} {ws : Ws} (h0 : ws ≠ []) (h : ∀ p ∈ ws, c ∉ p) : sp c (TL.joinL [c] ws) = ws := SX.spl_join h0 h
theorem sp_all {c : Nat} {P : L → Prop} (hP : ∀ p q, P (p ++ c :: q) → P p ∧ P q) : ∀ (n : Nat) (a : L), a.length ≤ n → P a → ∀ w ∈ sp c a, P w
  | n, a, hn, h, w, hw => by
    rcases cut_or c a with ⟨p, q, h1, h2, _⟩ | ⟨h1, _⟩
    · subst h1
      rw [sp_app q h2] at hw
      obtain ⟨g1, g2⟩ := hP p q h
      rcases List.mem_cons.mp hw with z | z
      · rw [z]; exact g1
      · cases n with
        | zero => simp at hn
        | succ n => exact sp_all hP n q (by simp at hn; omega) g2 w z
    · rw [sp_free h1] at hw
      rw [List.mem_singleton.mp hw]
      exact h
theorem sp_asc {c : Nat} {a : L} (h : asc a = true) : ∀ w ∈ sp c a, asc w = true := sp_all (P := fun a => asc a = true) (fun p q h => by
  unfold asc at *
  rw [List.all_append, List.all_cons, Bool.and_eq_true, Bool.and_eq_true] at h
  exact ⟨h.1, h.2.2⟩) a.length a (Nat.le_refl _) h
theorem sp_le {c b : Nat} {a : L} (h : a.length ≤ b) : ∀ w ∈ sp c a, w.length ≤ b := sp_all (P := fun a => a.length ≤ b) (fun p q h => by
  rw [List.length_append, List.length_cons] at h
  omega) a.length a (Nat.le_refl _) h
theorem sp_count {c : Nat} : ∀ (n : Nat) (a : L), a.length ≤ n → (sp c a).length ≤ n + 1
  | n, a, hn => by
    rcases cut_or c a with ⟨p, q, h1, h2, _⟩ | ⟨h1, _⟩
    · subst h1
      rw [sp_app q h2, List.length_cons]
      cases n with
      | zero => simp at hn
      | succ n => exact Nat.succ_le_succ (sp_count n q (by simp at hn; omega))
    · rw [sp_free h1]
      simp
theorem sp_ne {c : Nat} (a : L) : sp c a ≠ [] := by
  rcases cut_or c a with ⟨p, q, h1, h2, _⟩ | ⟨h1, _⟩
  · rw [h1, sp_app q h2]; simp
  · rw [sp_free h1]; simp
/-! ### names, numbers -/
def nch (c : Nat) : Bool := (decide (97 ≤ c) && decide (c ≤ 122)) || (decide (48 ≤ c) && decide (c ≤ 57))
def isName (a : L) : Bool := (decide (1 ≤ a.length) && decide (a.length ≤ 12)) && a.all nch
theorem leT1 (a b : Nat) : leTf (SX.S [a]) (SX.S [b]) = decide (a ≤ b) := by
  show (!decide ([b] < [a])) = _
  have e : ([b] < [a]) ↔ b < a := by
    rw [List.cons_lt_cons_iff]
    simp
  by_cases h : b < a
  · rw [decide_eq_true (e.mpr h), decide_eq_false (by omega)] <;> rfl
  · rw [decide_eq_false (fun z => h (e.mp z)), decide_eq_true (by omega)] <;> rfl
theorem onT_le (a b : Nat) : onT leTf (dS [a]) (dS [b]) = some (.bl (decide (a ≤ b))) := congrArg (fun z => some (D.bl z)) (leT1 a b)
def apTxt : Option D → Option (List D) := fun x => x.bind fun x => match x with
  | .str s => some (Zra.signsD s)
  | _ => none
theorem dTxt_a {a : DF} {g : Gm} : Zra.dTxt a g = apTxt (a g) := rfl
theorem apTxt_S {l : L} : apTxt (some (dS l)) = some (l.map fun c => dS [c]) := rfl
/-! ### `in`, index, == over what is laid out -/
theorem toPs_map {α : Type} {f : α → D} {p : α → PyData} : ∀ {xs : List α}, (∀ x ∈ xs, toP (f x) = some (p x)) → toPs (xs.map f) = some (xs.map p)
  | [], _ => rfl
  | x :: xs, h => by
    show (toP (f x)).bind (fun q => (toPs (xs.map f)).map (q :: ·)) = _
    rw [h x List.mem_cons_self, toPs_map fun y m => h y (List.mem_cons_of_mem _ m)]
    rfl
theorem lays_map {α : Type} {p : α → PyData} : ∀ {xs : List α}, (∀ x ∈ xs, (p x).canLay0 = true) → PyData.canLayAll0 (xs.map p) = true
  | [], _ => rfl
  | x :: xs, h => by
    show PyData.canLayAll0 (p x :: xs.map p) = true
    unfold PyData.canLayAll0
    rw [h x List.mem_cons_self, lays_map fun y m => h y (List.mem_cons_of_mem _ m)]
    rfl
theorem any_map {α : Type} {p : α → PyData} {b : α → Bool} {q : PyData} : ∀ {xs : List α}, (∀ x ∈ xs, PyData.eqv (p x) q = b x) → ((xs.map p).any fun z => PyData.eqv z q) = xs.any b
  | [], _ => rfl
  | x :: xs, h => by
    rw [List.map_cons, List.any_cons, List.any_cons, h x List.mem_cons_self, any_map fun y m => h y (List.mem_cons_of_mem _ m)]
theorem inB_gen {α : Type} {f : α → D} {p : α → PyData} {b : α → Bool} {d : D} {q : PyData} {xs : List α} (hd : toP d = some q) (hs : small q = true) (h1 : ∀ x ∈ xs, toP (f x) = some (p x)) (h2 : ∀ x ∈ xs, (p x).canLay0 = true) (h3 : ∀ x ∈ xs, PyData.eqv (p x) q = b x) :
    inPB d (.lst (xs.map f)) = some (xs.any b) := by
  show ((toP d).bind fun d => (toPs (xs.map f)).bind fun ps => if (small d && PyData.canLayAll0 ps) = true then some (ps.any fun z => PyData.eqv z d) else none) = _
  rw [hd, toPs_map h1, Option.bind_some, Option.bind_some, hs, lays_map h2, any_map h3]
  rfl
theorem in_gen {α : Type} {f : α → D} {p : α → PyData} {b : α → Bool} {d : D} {q : PyData} {xs : List α} (hd : toP d = some q) (hs : small q = true) (h1 : ∀ x ∈ xs, toP (f x) = some (p x)) (h2 : ∀ x ∈ xs, (p x).canLay0 = true) (h3 : ∀ x ∈ xs, PyData.eqv (p x) q = b x) :
    inPD d (.lst (xs.map f)) = some (.bl (xs.any b)) := by
  unfold inPD
  rw [inB_gen hd hs h1 h2 h3]
  rfl
theorem ca : codes "a" = [97] := (rfl)
theorem cz : codes "z" = [122] := (rfl)
theorem c0 : codes "0" = [48] := (rfl)
theorem c9 : codes "9" = [57] := (rfl)
theorem cComma : codes "," = [44] := (rfl)
theorem cEq : codes "=" = [61] := (rfl)
theorem cCol : codes ":" = [58] := (rfl)
theorem cSl : codes "/" = [47] := (rfl)
theorem cSemi : codes ";" = [59] := (rfl)
theorem cSp : codes " " = [32] := (rfl)
def apZip : Option (List D) → Option (List D) := fun x => x.bind fun zs => match zs with
  | [.lst xs, .lst ys] => some (Zq9.zipD xs ys)
  | [.tup xs, .tup ys] => some (Zq9.zipD xs ys)
  | _ => none
theorem dZip_a {a : DAF} {g : Gm} : Zq9.dZip a g = apZip (a g) := rfl
theorem apZip_l {xs ys : List D} : apZip (some [.lst xs, .lst ys]) = some (Zq9.zipD xs ys) := rfl
local macro_rules | `(tactic| walk_at "zs") => `(tactic| simp only [beq_self_eq_true, Bool.or_false, Bool.false_or, Bool.true_or, Bool.or_true, Bool.and_false, Bool.false_and, Bool.true_and, Bool.and_true, Zc.isi_ii, Zc.isi_ib, Zc.isi_tt, Zc.isi_ll, Zc.rowsT_len, Zc.rowsL_len, Zc.is_integer_call, Zc.ix_p0, Zc.ix_p1, dgTup2_a, dgTup3_a, Bool.not_true, Bool.not_false, mul_lz, List.flatten_cons, List.flatten_nil, Int.reduceToNat, add_ll, pow10_12, pow10_18, pow10_39, pow10_41, pow10_59, pow10_60, mkLst_some, mkTup_some, List.length_cons, List.length_nil, Nat.zero_le, Nat.reduceAdd, Nat.reduceLeDiff, call1, callO1, call2, callO2, call3, callO3, call4, callO4, call5, callO5, call6, callO6, ap1_some, ap2_some, apN_some, apC_some, d1_a, d2_a, dN_a, aNil_a, aCons_a, dC_a, dVar_z, dVar_s, tDt_a, apAnd_t, apAnd_f, apOr_t, apOr_f, dAndT_a, dOrT_a, apNot_some, dNotT_a, apAndV_t, apAndV_f, dAndV_a, apOrV_t, apOrV_f, dOrV_a, apIf_t, apIf_f, dIf_a, apCh_t, apCh_f, apChain_some, dChain_a, apSeq_nx, apSeq_rt, apSeq_ct, apSeq_bk, sSeq_a, apIfS_t, apIfS_f, sIf_a, sNext_a, sCont_a, sBreak_a, apRet_some, sRet_a, apRetO_some, sRetO_a, sRetN_a, getO_z, getO_s, apRetV_some, sRetV_a, ltB_z, ltB_s, okSlot_s, apAsg_some, sAsg_a, dName_ok, apG_some, dgCons_a, dgNil_a, apAsgO_some, sAsgO_a, sApp_a, sSetI_a, apFor_some, sFor_a, dItems_a, dRng1_a, dRng2_a, apEn_some, apEn_tup, dEnum_a, sFrz_a, frzs_nil, frzs_cons, frzI_o, frzI_v, frzI_n, frzI_s, frz1_s, frzAll_nil, frzAll_o, frzAll_v, frzAll_n, peekT_a, apPk_int, apPk_bl, apPk_str, apPk_non, peekF_a, dCall_a, toO_o, dCallO_a, dMake_a, Wd_v, Wd_o, dSl_a, apSl_some, oNone_a, oSome_a, apO_some, add_ii, sub_ii, lt_ii, le_ii, gt_ii, ge_ii, eq_ii, ne_ii, neg_i, not_b, bl_b, tru_b, tru_i, tru_l, tru_t, tru_n, len_l, len_t, len_scr, abs_i, int_i, list_l, list_t, tuple_l, tuple_t, min_ii, max_ii, rev_l, items_l, items_t, iL_len, run_a, outW_rt, outW_nx, List.map_cons, List.map_nil, List.replicate, List.append_nil, List.cons_append, List.nil_append, List.set_cons_zero, List.set_cons_succ, Option.map_some])
local macro_rules | `(tactic| walk_at "zd") => `(tactic| first | ((with_reducible show okSlot _ _ = true); simp only [okSlot_s, ltB_z, ltB_s]; done) | omega | assumption | decide | (simp only [List.length_map, List.length_append, List.length_cons, List.length_nil, List.length_range, List.length_set, List.length_reverse, iL_len, Zc.rowsT_len, Zc.rowsL_len] at *; omega))
local macro_rules | `(tactic| walk_at "zz") => `(tactic| simp (disch := walk_at "zd") only [dgTup2_a, dgTup3_a, Bool.not_true, Bool.not_false, mul_lz, List.flatten_cons, List.flatten_nil, Int.reduceToNat, add_ll, pow10_12, pow10_18, pow10_39, pow10_41, pow10_59, pow10_60, mkLst_some, mkTup_some, List.length_cons, List.length_nil, Nat.zero_le, Nat.reduceAdd, Nat.reduceLeDiff, call1, callO1, call2, callO2, call3, callO3, call4, callO4, call5, callO5, call6, callO6, ap1_some, ap2_some, apN_some, apC_some, d1_a, d2_a, dN_a, aNil_a, aCons_a, dC_a, dVar_z, dVar_s, tDt_a, apAnd_t, apAnd_f, apOr_t, apOr_f, dAndT_a, dOrT_a, apNot_some, dNotT_a, apAndV_t, apAndV_f, dAndV_a, apOrV_t, apOrV_f, dOrV_a, apIf_t, apIf_f, dIf_a, apCh_t, apCh_f, apChain_some, dChain_a, apSeq_nx, apSeq_rt, apSeq_ct, apSeq_bk, sSeq_a, apIfS_t, apIfS_f, sIf_a, sNext_a, sCont_a, sBreak_a, apRet_some, sRet_a, apRetO_some, sRetO_a, sRetN_a, getO_z, getO_s, apRetV_some, sRetV_a, ltB_z, ltB_s, okSlot_s, apAsg_some, sAsg_a, dName_ok, apG_some, dgCons_a, dgNil_a, apAsgO_some, sAsgO_a, sApp_a, sSetI_a, apFor_some, sFor_a, dItems_a, dRng1_a, dRng2_a, apEn_some, apEn_tup, dEnum_a, sFrz_a, frzs_nil, frzs_cons, frzI_o, frzI_v, frzI_n, frzI_s, frz1_s, frzAll_nil, frzAll_o, frzAll_v, frzAll_n, peekT_a, apPk_int, apPk_bl, apPk_str, apPk_non, peekF_a, dCall_a, toO_o, dCallO_a, dMake_a, Wd_v, Wd_o, dSl_a, apSl_some, oNone_a, oSome_a, apO_some, add_ii, sub_ii, lt_ii, le_ii, gt_ii, ge_ii, eq_ii, ne_ii, neg_i, not_b, bl_b, tru_b, tru_i, tru_l, tru_t, tru_n, len_l, len_t, len_scr, abs_i, int_i, list_l, list_t, tuple_l, tuple_t, min_ii, max_ii, rev_l, items_l, items_t, iL_len, run_a, outW_rt, outW_nx, List.map_cons, List.map_nil, List.replicate, List.append_nil, List.cons_append, List.nil_append, List.set_cons_zero, List.set_cons_succ, Option.map_some, Int.reduceAdd, Int.reduceMul, Int.reduceSub, Int.reduceNeg, beq_self_eq_true, Bool.or_false, Bool.false_or, Bool.true_or, Bool.or_true, Bool.and_false, Bool.false_and, Bool.true_and, Bool.and_true, Zc.isi_ii, Zc.isi_ib, Zc.isi_tt, Zc.isi_ll, Zc.rowsT_len, Zc.rowsL_len, Zc.is_integer_call, Zc.ix_p0, Zc.ix_p1, apR1_any, Int.toNat_natCast, apR2_some, mod_ii, fdiv_ii, mul_small, apApp_some, ix_at, ix_atT, ix_atI, ix_atIT, ix_atR, ix_atRT, List.length_map, List.length_append, List.length_range, List.length_set, Option.map_none, Option.map_map, decide_true, decide_false, peekO_a, apPkO_i, frz_wo, frz_wv, frz_kk, wipeG_nil, wipeG_cons, orB_s, orB_t, orB_f, andB_s, andB_t, andB_f, orV_s, orV_t, orV_f, andV_s, andV_t, andV_f, apOr_b, apAnd_b, apOrV_b, apAndV_b, apCh_b, Zc.cut_from, Zc.cut_to, in_l, in_t, in_pr, eq_op_op, eq_op_pr, eq_pr_op, eq_pr_pr, ne_op_op, ne_op_pr, ne_pr_op, ne_pr_pr, isnt_op, is_op, pr_0, pr_1, st_0, st_1, inP_pr, ninP_pr, nin_l, isi_prt, len_pr, op_some, prD_eq, ix_lit2, ix_lit3, ix_lit4, ix_lit5, ix_lit6, ix_lit7, ix_lit8, ix_lit9, ix_lit10, ix_lit11, ix_lit12, ix_lit13, ix_lit14, ix_lit15, setI_i, setI_p, setI_o, setI_n, snoc_i, snoc_r, snoc_p, snoc_n, snoc_o, snoc_pp, snoc_s, eq_ol, ne_ol, eq_pl, ne_pl, eq_sl, ne_sl, eq_il, ne_il, eq_rl, ne_rl, eq_il1, isi_bb, eq_bb, ne_bb, eq_self, lit, dM1_a, apM1_S, dM0_a, apM0_S, Bool.not_true, Bool.not_false, is_tn, is_nn, is_ln, dTxt_a, apTxt_S, Int.reduceBEq, ca, cz, c0, c9, cComma, cEq, cCol, cSl, cSemi, cSp, onT_le, dZip_a, apZip_l])
local macro_rules | `(tactic| walk_at "zf") => `(tactic| first | (walk_at "zz"; done) | (walk_at "zz"; rfl) | rfl)
local macro_rules | `(tactic| walk_at "lc") => `(tactic| ((case hf => rfl); (case hi => first | (walk_at "zz"; done) | (walk_at "zz"; rfl) | rfl); (case hl => walk_at "zd"); (case h => (intro a ha; refine ⟨_, dName_ok rfl, ?_, fun hT => ?_⟩ <;> walk_at "zz" <;> rfl))))
local macro_rules | `(tactic| walk_at "lm") => `(tactic| ((case hf => rfl); (case hi => first | (walk_at "zz"; done) | (walk_at "zz"; rfl) | rfl); (case hl => walk_at "zd"); (case h => (intro a ha; refine ⟨_, dName_ok rfl, ?_⟩; walk_at "zz"; rfl))))
theorem is_name_spec {a : L} (hl : a.length ≤ 100000) : g_is_name [dS a] = some (.v (.bl (isName a))) := by
  unfold g_is_name t_is_name
  walk_at "zz"
  rw [len_S hl]
  walk_at "zz"
  have e1 : (decide ((1 : Int) ≤ ((a.length : Nat) : Int)) && decide (((a.length : Nat) : Int) ≤ 12)) = (decide (1 ≤ a.length) && decide (a.length ≤ 12)) := by
    congr 1 <;> (rw [decide_eq_decide]; omega)
  rw [e1]
  unfold isName
  cases (decide (1 ≤ a.length) && decide (a.length ≤ 12))
  · walk_at "zz"
  · walk_at "zz"
    rewrite [dLc_map (fun c => dS [c]) (xs := a) (F := fun c => .bl (nch c))]
    case hf => rfl
    case hi => walk_at "zz"
    case hl => exact hl
    case h =>
      intro c hm
      refine ⟨_, dName_ok rfl, ?_⟩
      walk_at "zz"
      unfold nch
      cases decide (97 ≤ c) <;> cases decide (c ≤ 122) <;> cases decide (48 ≤ c) <;> cases decide (c ≤ 57) <;> walk_at "zz"
    walk_at "zz"
    rw [all_bls]
    walk_at "zz"
def rdNums (a : L) : Option (List Int) := if (sp 44 a).all isNum = true then some ((sp 44 a).map val) else none
def numsD : Option (List Int) → D
  | some ns => .lst (iL ns)
  | none => .non
theorem read_joined_spec {a : L} (ha : asc a = true) (hl : a.length ≤ 640) : g_read_joined [dS a] = some (.v (numsD (rdNums a))) := by
  unfold g_read_joined t_read_joined
  walk_at "zz"
  rw [sp_S (by decide) (by omega)]
  walk_at "zz"
  have hc := sp_count (c := 44) a.length a (Nat.le_refl _)
  rewrite [dLc_map dS (xs := sp 44 a) (F := fun a => D.bl (isNum a))]
  case hf => rfl
  case hi => walk_at "zz"
  case hl => omega
  case h =>
    intro w hm
    refine ⟨_, dName_ok rfl, ?_⟩
    walk_at "zz"
    rw [e_is_number, is_number_spec (sp_asc ha w hm)]
    walk_at "zz"
  walk_at "zz"
  rw [all_bls]
  unfold rdNums
  cases hall : (sp 44 a).all isNum
  · walk_at "zz"
    rfl
  · walk_at "zz"
    rewrite [dLc_map dS (xs := sp 44 a) (F := fun a => D.int (val a))]
    case hf => rfl
    case hi => walk_at "zz"
    case hl => omega
    case h =>
      intro w hm
      refine ⟨_, dName_ok rfl, ?_⟩
      walk_at "zz"
      exact intS_val (List.all_eq_true.mp hall w hm) (sp_le hl w hm)
    walk_at "zz"
    show some (Wd.v (D.lst _)) = some (Wd.v (D.lst (((sp 44 a).map val).map D.int)))
    rw [List.map_map]
    rfl
/-! ### rising -/
def riseL {α : Type} (lt : α → α → Bool) : List α → Bool
  | x :: y :: r => lt x y && riseL lt (y :: r)
  | _ => true
def ltI (x y : Int) : Bool := decide (x < y)
def ltS (x y : L) : Bool := decide (x < y)
theorem zipD_map {α β : Type} (f : α → D) (g : β → D) : ∀ (xs : List α) (ys : List β), Zq9.zipD (xs.map f) (ys.map g) = (xs.zip ys).map fun p => .tup [f p.1, g p.2]
  | [], _ => by simp [Zq9.zipD]
  | _ :: _, [] => by simp [Zq9.zipD]
  | x :: xs, y :: ys => by
    show D.tup [f x, g y] :: Zq9.zipD (xs.map f) (ys.map g) = _
    rw [zipD_map f g xs ys]
    rfl
theorem rise_zip {α : Type} (lt : α → α → Bool) : ∀ xs : List α, ((xs.zip (xs.drop 1)).all fun p => lt p.1 p.2) = riseL lt xs
  | [] => rfl
  | [x] => rfl
  | x :: y :: r => by
    have h := rise_zip lt (y :: r)
    show (lt x y && (((y :: r).zip r).all fun p => lt p.1 p.2)) = (lt x y && riseL lt (y :: r))
    rw [← h]
    rfl
theorem rise_spec {α : Type} {f : α → D} {lt : α → α → Bool} {xs : List α} (h : ∀ x ∈ xs, ∀ y ∈ xs, Zra.ltA (f x) (f y) = some (.bl (lt x y))) (hl : xs.length ≤ 1000) : g_rise [.lst (xs.map f)] = some (.v (.bl (riseL lt xs))) := by
  unfold g_rise t_rise
  walk_at "zz"
  have e1 : cutL (xs.map f) (some 1) none = (xs.drop 1).map f := by
    have z := Zc.cut_from (xs.map f) 1
    rw [← List.map_drop] at z
    exact z
  rewrite [dLc_map (fun p : α × α => D.tup [f p.1, f p.2]) (xs := xs.zip (xs.drop 1)) (F := fun p => .bl (lt p.1 p.2))]
  case hf => rfl
  case hi =>
    walk_at "zz"
    rw [e1]
    exact congrArg some (zipD_map f f _ _)
  case hl => rw [List.length_zip]; omega
  case h =>
    intro p hm
    obtain ⟨m1, m2⟩ := List.of_mem_zip (a := p.1) (b := p.2) hm
    refine ⟨_, rfl, ?_⟩
    walk_at "zz"
    exact h p.1 m1 p.2 (List.mem_of_mem_drop m2)
  walk_at "zz"
  rw [all_bls, rise_zip]
  walk_at "zz"
theorem rise_ints {ns : List Int} (hl : ns.length ≤ 1000) : g_rise [.lst (iL ns)] = some (.v (.bl (riseL ltI ns))) := rise_spec (f := D.int) (fun _ _ _ _ => rfl) hl
theorem count_spec {ns : List Int} (hl : ns.length ≤ 990) : g_count [.lst (iL ns)] = some (.v (.bl (riseL ltI (0 :: ns)))) := by
  unfold g_count t_count
  walk_at "zz"
  show outW (apRet (Option.map Wd.d (g_rise [.lst (iL (0 :: ns))]))) = _
  rw [rise_ints (by simp; omega)]
  walk_at "zz"
end Rk
end

section
set_option Elab.async false
set_option linter.all false
set_option maxRecDepth 100000
set_option maxHeartbeats 4000000
/-! Records read, further: names with numbers, wardens, the record. -/
namespace Rk
open PySem L2 Zk Zc Zj Zd
theorem cut_le (c : Nat) (a : L) : (cut c a).1.length ≤ a.length ∧ ((cut c a).2.getD []).length ≤ a.length := by
  rcases cut_or c a with ⟨p, q, h1, h2, h3⟩ | ⟨h1, h3⟩
  · rw [h3, h1]
    simp
    omega
  · rw [h3]
    simp
theorem cut_asc (c : Nat) {a : L} (h : asc a = true) : asc (cut c a).1 = true ∧ asc ((cut c a).2.getD []) = true := by
  rcases cut_or c a with ⟨p, q, h1, h2, h3⟩ | ⟨h1, h3⟩
  · rw [h3]
    rw [h1] at h
    unfold asc at *
    rw [List.all_append, List.all_cons, Bool.and_eq_true, Bool.and_eq_true] at h
    exact ⟨h.1, h.2.2⟩
  · rw [h3]
    exact ⟨h, rfl⟩
def oD {α : Type} (f : α → D) : Option α → D
  | some x => f x
  | none => .non
theorem is_num1 {o : Option (List Int)} : isD (numsD o) .non = some (.bl o.isNone) := by cases o <;> rfl
theorem rdNums_len {a : L} {ns : List Int} {b : Nat} (hl : a.length ≤ b) (h : rdNums a = some ns) : ns.length ≤ b + 1 := by
  unfold rdNums at h
  split at h
  · cases h
    rw [List.length_map]
    exact sp_count b a hl
  · cases h
def nmOf (n : L) (m : Bool) : Option (List Int) → Option (L × List Int)
  | some ns => if isName n = true ∧ m = true ∧ riseL ltI (0 :: ns) = true then some (n, ns) else none
  | none => none
def nmNums (r : L) : Option (List Int) := if r = [] then some [] else rdNums r
def rdName (a : L) : Option (L × List Int) := nmOf (cut 61 a).1 (cut 61 a).2.isSome (nmNums ((cut 61 a).2.getD []))
def nmD (r : L × List Int) : D := .tup [dS r.1, .tup (iL r.2)]
local macro_rules | `(tactic| walk_at "zs") => `(tactic| simp only [beq_self_eq_true, Bool.or_false, Bool.false_or, Bool.true_or, Bool.or_true, Bool.and_false, Bool.false_and, Bool.true_and, Bool.and_true, Zc.isi_ii, Zc.isi_ib, Zc.isi_tt, Zc.isi_ll, Zc.rowsT_len, Zc.rowsL_len, Zc.is_integer_call, Zc.ix_p0, Zc.ix_p1, dgTup2_a, dgTup3_a, Bool.not_true, Bool.not_false, mul_lz, List.flatten_cons, List.flatten_nil, Int.reduceToNat, add_ll, pow10_12, pow10_18, pow10_39, pow10_41, pow10_59, pow10_60, mkLst_some, mkTup_some, List.length_cons, List.length_nil, Nat.zero_le, Nat.reduceAdd, Nat.reduceLeDiff, call1, callO1, call2, callO2, call3, callO3, call4, callO4, call5, callO5, call6, callO6, ap1_some, ap2_some, apN_some, apC_some, d1_a, d2_a, dN_a, aNil_a, aCons_a, dC_a, dVar_z, dVar_s, tDt_a, apAnd_t, apAnd_f, apOr_t, apOr_f, dAndT_a, dOrT_a, apNot_some, dNotT_a, apAndV_t, apAndV_f, dAndV_a, apOrV_t, apOrV_f, dOrV_a, apIf_t, apIf_f, dIf_a, apCh_t, apCh_f, apChain_some, dChain_a, apSeq_nx, apSeq_rt, apSeq_ct, apSeq_bk, sSeq_a, apIfS_t, apIfS_f, sIf_a, sNext_a, sCont_a, sBreak_a, apRet_some, sRet_a, apRetO_some, sRetO_a, sRetN_a, getO_z, getO_s, apRetV_some, sRetV_a, ltB_z, ltB_s, okSlot_s, apAsg_some, sAsg_a, dName_ok, apG_some, dgCons_a, dgNil_a, apAsgO_some, sAsgO_a, sApp_a, sSetI_a, apFor_some, sFor_a, dItems_a, dRng1_a, dRng2_a, apEn_some, apEn_tup, dEnum_a, sFrz_a, frzs_nil, frzs_cons, frzI_o, frzI_v, frzI_n, frzI_s, frz1_s, frzAll_nil, frzAll_o, frzAll_v, frzAll_n, peekT_a, apPk_int, apPk_bl, apPk_str, apPk_non, peekF_a, dCall_a, toO_o, dCallO_a, dMake_a, Wd_v, Wd_o, dSl_a, apSl_some, oNone_a, oSome_a, apO_some, add_ii, sub_ii, lt_ii, le_ii, gt_ii, ge_ii, eq_ii, ne_ii, neg_i, not_b, bl_b, tru_b, tru_i, tru_l, tru_t, tru_n, len_l, len_t, len_scr, abs_i, int_i, list_l, list_t, tuple_l, tuple_t, min_ii, max_ii, rev_l, items_l, items_t, iL_len, run_a, outW_rt, outW_nx, List.map_cons, List.map_nil, List.replicate, List.append_nil, List.cons_append, List.nil_append, List.set_cons_zero, List.set_cons_succ, Option.map_some])
local macro_rules | `(tactic| walk_at "zd") => `(tactic| first | ((with_reducible show okSlot _ _ = true); simp only [okSlot_s, ltB_z, ltB_s]; done) | omega | assumption | decide | (simp only [List.length_map, List.length_append, List.length_cons, List.length_nil, List.length_range, List.length_set, List.length_reverse, iL_len, Zc.rowsT_len, Zc.rowsL_len] at *; omega))
local macro_rules | `(tactic| walk_at "zz") => `(tactic| simp (disch := walk_at "zd") only [dgTup2_a, dgTup3_a, Bool.not_true, Bool.not_false, mul_lz, List.flatten_cons, List.flatten_nil, Int.reduceToNat, add_ll, pow10_12, pow10_18, pow10_39, pow10_41, pow10_59, pow10_60, mkLst_some, mkTup_some, List.length_cons, List.length_nil, Nat.zero_le, Nat.reduceAdd, Nat.reduceLeDiff, call1, callO1, call2, callO2, call3, callO3, call4, callO4, call5, callO5, call6, callO6, ap1_some, ap2_some, apN_some, apC_some, d1_a, d2_a, dN_a, aNil_a, aCons_a, dC_a, dVar_z, dVar_s, tDt_a, apAnd_t, apAnd_f, apOr_t, apOr_f, dAndT_a, dOrT_a, apNot_some, dNotT_a, apAndV_t, apAndV_f, dAndV_a, apOrV_t, apOrV_f, dOrV_a, apIf_t, apIf_f, dIf_a, apCh_t, apCh_f, apChain_some, dChain_a, apSeq_nx, apSeq_rt, apSeq_ct, apSeq_bk, sSeq_a, apIfS_t, apIfS_f, sIf_a, sNext_a, sCont_a, sBreak_a, apRet_some, sRet_a, apRetO_some, sRetO_a, sRetN_a, getO_z, getO_s, apRetV_some, sRetV_a, ltB_z, ltB_s, okSlot_s, apAsg_some, sAsg_a, dName_ok, apG_some, dgCons_a, dgNil_a, apAsgO_some, sAsgO_a, sApp_a, sSetI_a, apFor_some, sFor_a, dItems_a, dRng1_a, dRng2_a, apEn_some, apEn_tup, dEnum_a, sFrz_a, frzs_nil, frzs_cons, frzI_o, frzI_v, frzI_n, frzI_s, frz1_s, frzAll_nil, frzAll_o, frzAll_v, frzAll_n, peekT_a, apPk_int, apPk_bl, apPk_str, apPk_non, peekF_a, dCall_a, toO_o, dCallO_a, dMake_a, Wd_v, Wd_o, dSl_a, apSl_some, oNone_a, oSome_a, apO_some, add_ii, sub_ii, lt_ii, le_ii, gt_ii, ge_ii, eq_ii, ne_ii, neg_i, not_b, bl_b, tru_b, tru_i, tru_l, tru_t, tru_n, len_l, len_t, len_scr, abs_i, int_i, list_l, list_t, tuple_l, tuple_t, min_ii, max_ii, rev_l, items_l, items_t, iL_len, run_a, outW_rt, outW_nx, List.map_cons, List.map_nil, List.replicate, List.append_nil, List.cons_append, List.nil_append, List.set_cons_zero, List.set_cons_succ, Option.map_some, Int.reduceAdd, Int.reduceMul, Int.reduceSub, Int.reduceNeg, beq_self_eq_true, Bool.or_false, Bool.false_or, Bool.true_or, Bool.or_true, Bool.and_false, Bool.false_and, Bool.true_and, Bool.and_true, Zc.isi_ii, Zc.isi_ib, Zc.isi_tt, Zc.isi_ll, Zc.rowsT_len, Zc.rowsL_len, Zc.is_integer_call, Zc.ix_p0, Zc.ix_p1, apR1_any, Int.toNat_natCast, apR2_some, mod_ii, fdiv_ii, mul_small, apApp_some, ix_at, ix_atT, ix_atI, ix_atIT, ix_atR, ix_atRT, List.length_map, List.length_append, List.length_range, List.length_set, Option.map_none, Option.map_map, decide_true, decide_false, peekO_a, apPkO_i, frz_wo, frz_wv, frz_kk, wipeG_nil, wipeG_cons, orB_s, orB_t, orB_f, andB_s, andB_t, andB_f, orV_s, orV_t, orV_f, andV_s, andV_t, andV_f, apOr_b, apAnd_b, apOrV_b, apAndV_b, apCh_b, Zc.cut_from, Zc.cut_to, in_l, in_t, in_pr, eq_op_op, eq_op_pr, eq_pr_op, eq_pr_pr, ne_op_op, ne_op_pr, ne_pr_op, ne_pr_pr, isnt_op, is_op, pr_0, pr_1, st_0, st_1, inP_pr, ninP_pr, nin_l, isi_prt, len_pr, op_some, prD_eq, ix_lit2, ix_lit3, ix_lit4, ix_lit5, ix_lit6, ix_lit7, ix_lit8, ix_lit9, ix_lit10, ix_lit11, ix_lit12, ix_lit13, ix_lit14, ix_lit15, setI_i, setI_p, setI_o, setI_n, snoc_i, snoc_r, snoc_p, snoc_n, snoc_o, snoc_pp, snoc_s, eq_ol, ne_ol, eq_pl, ne_pl, eq_sl, ne_sl, eq_il, ne_il, eq_rl, ne_rl, eq_il1, isi_bb, eq_bb, ne_bb, eq_self, lit, dM1_a, apM1_S, dM0_a, apM0_S, Bool.not_true, Bool.not_false, is_tn, is_nn, is_ln, dTxt_a, apTxt_S, Int.reduceBEq, ca, cz, c0, c9, cComma, cEq, cCol, cSl, cSemi, cSp, dZip_a, apZip_l, is_num1, List.isEmpty_nil, List.isEmpty_cons, Bool.false_eq_true, reduceIte, Option.isNone_none, Option.isNone_some])
local macro_rules | `(tactic| walk_at "zf") => `(tactic| first | (walk_at "zz"; done) | (walk_at "zz"; rfl) | rfl)
local macro_rules | `(tactic| walk_at "lc") => `(tactic| ((case hf => rfl); (case hi => first | (walk_at "zz"; done) | (walk_at "zz"; rfl) | rfl); (case hl => walk_at "zd"); (case h => (intro a ha; refine ⟨_, dName_ok rfl, ?_, fun hT => ?_⟩ <;> walk_at "zz" <;> rfl))))
local macro_rules | `(tactic| walk_at "lm") => `(tactic| ((case hf => rfl); (case hi => first | (walk_at "zz"; done) | (walk_at "zz"; rfl) | rfl); (case hl => walk_at "zd"); (case h => (intro a ha; refine ⟨_, dName_ok rfl, ?_⟩; walk_at "zz"; rfl))))
theorem read_name_spec {a : L} (ha : asc a = true) (hl : a.length ≤ 640) : g_read_name [dS a] = some (.v (oD nmD (rdName a))) := by
  unfold g_read_name t_read_name
  walk_at "zz"
  rw [part_S (by omega)]
  walk_at "zz"
  obtain ⟨l1, l2⟩ := cut_le 61 a
  obtain ⟨a1, a2⟩ := cut_asc 61 ha
  unfold rdName
  generalize (cut 61 a).1 = n at l1 a1 ⊢
  generalize hr : (cut 61 a).2.getD [] = r at l2 a2 ⊢
  generalize (cut 61 a).2.isSome = m at ⊢
  rw [tru_S (by omega)]
  have key : ∀ o : Option (List Int), (∀ ns, o = some ns → ns.length ≤ 641) → ∀ g : Gm, g = [some (.v (dS a)), some (.v (dS n)), some (.v (dS (if m = true then [61] else []))), some (.v (dS r)), some (.v (numsD o))] →
      outW ((sSeq (sIf (dOrT (dNotT (tDt truD (dCall 1 (g_is_name) (aCons (dVar 1) aNil)))) (dOrT (dNotT (tDt truD (dVar 2))) (dOrT (tDt blD (d2 isD (dVar 4) (dC .non))) (dNotT (tDt truD (dCall 1 (g_count) (aCons (dVar 4) aNil)))))))
 (sRet (dC .non))
 sNext)
 (sRet (dN mkTup (aCons (dVar 1) (aCons (dN tupleD (aCons (dVar 4) aNil)) aNil))))) g) = some (.v (oD nmD (nmOf n m o))) := fun o ho g hg => by
    subst hg
    walk_at "zz"
    rw [is_name_spec (by omega)]
    cases hn : isName n
    · walk_at "zz"
      cases o <;> simp [nmOf, hn, oD]
    · walk_at "zz"
      rw [tru_S (by cases m <;> simp)]
      cases m
      · walk_at "zz"
        cases o <;> simp [nmOf, oD]
      · cases o with
        | none => walk_at "zz"; rfl
        | some ns =>
          have hns := ho ns rfl
          show outW (sSeq _ _ [some (.v (dS a)), some (.v (dS n)), some (.v (dS (if true = true then [61] else []))), some (.v (dS r)), some (.v (.lst (iL ns)))]) = _
          walk_at "zz"
          rw [show numsD (some ns) = D.lst (iL ns) from rfl, count_spec (by omega)]
          unfold nmOf
          rw [hn]
          cases hc : riseL ltI (0 :: ns)
          · walk_at "zz"
            rw [if_neg (fun z => Bool.false_ne_true (hc.symm.trans z.2.2))]
            rfl
          · walk_at "zz"
            rw [if_pos ⟨trivial, trivial, hc⟩]
            rfl
  by_cases hr0 : r = []
  · subst hr0
    walk_at "zz"
    rw [show nmNums [] = some [] from rfl]
    exact key (some []) (fun ns e => by cases e; simp) _ rfl
  · have e1 : (!r.isEmpty) = true := by cases r with | nil => exact absurd rfl hr0 | cons x r => rfl
    rw [e1]
    walk_at "zz"
    rw [read_joined_spec a2 (by omega)]
    walk_at "zz"
    rw [show nmNums r = rdNums r from if_neg hr0]
    exact key (rdNums r) (fun ns e => rdNums_len (by omega) e) _ rfl
/-! ### wardens -/
def wdOf (n : L) : Option (List Int) → Option (Int × Int × Int)
  | some [x, y] => if isNum n = true ∧ x < y then some (val n, x, y) else none
  | _ => none
def rdWarden (a : L) : Option (Int × Int × Int) := wdOf (cut 58 a).1 (rdNums ((cut 58 a).2.getD []))
def wdD (w : Int × Int × Int) : D := .tup [.int w.1, .int w.2.1, .int w.2.2]
theorem read_warden_spec {a : L} (ha : asc a = true) (hl : a.length ≤ 640) : g_read_warden [dS a] = some (.v (oD wdD (rdWarden a))) := by
  unfold g_read_warden t_read_warden
  walk_at "zz"
  rw [part_S (by omega)]
  walk_at "zz"
  obtain ⟨l1, l2⟩ := cut_le 58 a
  obtain ⟨a1, a2⟩ := cut_asc 58 ha
  unfold rdWarden
  generalize (cut 58 a).1 = n at l1 a1 ⊢
  generalize (cut 58 a).2.getD [] = r at l2 a2 ⊢
  rw [read_joined_spec a2 (by omega)]
  have hlen : ∀ ns, rdNums r = some ns → ns.length ≤ 641 := fun ns e => rdNums_len (by omega) e
  generalize rdNums r = o at hlen ⊢
  walk_at "zz"
  rw [e_is_number, is_number_spec a1]
  cases hn : isNum n
  · walk_at "zz"
    match o with
    | none => rfl
    | some [] => rfl
    | some [x] => rfl
    | some [x, y] => show _ = some (Wd.v (oD wdD (if isNum n = true ∧ x < y then _ else none))); rw [hn, if_neg (fun z => Bool.false_ne_true z.1)]; rfl
    | some (x :: y :: z :: r) => rfl
  · walk_at "zz"
    cases o with
    | none => walk_at "zz"; rfl
    | some ns =>
      have hns := hlen ns rfl
      rw [show numsD (some ns) = D.lst (iL ns) from rfl]
      walk_at "zz"
      by_cases h2 : ns.length = 2
      · match ns, h2 with
        | [x, y], _ =>
          rw [show (!((([x, y] : List Int).length : Nat) : Int) == 2) = false from rfl, rise_ints (by simp)]
          rw [show riseL ltI [x, y] = decide (x < y) from Bool.and_true _]
          by_cases hxy : x < y
          · rw [decide_eq_true hxy, show wdOf n (some [x, y]) = some (val n, x, y) from if_pos ⟨hn, hxy⟩]
            walk_at "zz"
            rw [intS_val hn (by omega)]
            walk_at "zz"
            rfl
          · rw [decide_eq_false hxy, show wdOf n (some [x, y]) = none from if_neg (fun z => hxy z.2)]
            walk_at "zz"
            rfl
      · have e1 : (!((ns.length : Nat) : Int) == 2) = true := by
          cases z : (((ns.length : Nat) : Int) == 2) with
          | false => rfl
          | true => have := eq_of_beq z; omega
        have e2 : wdOf n (some ns) = none := by
          match ns, h2 with
          | [], _ => rfl
          | [x], _ => rfl
          | [x, y], h => exact absurd rfl h
          | x :: y :: z :: r, _ => rfl
        rw [e1, e2]
        walk_at "zz"
        rfl
def allSome {α β : Type} (f : α → Option β) : List α → Option (List β)
  | [] => some []
  | x :: xs => (f x).bind fun y => (allSome f xs).map (y :: ·)
theorem allSome_yes {α β : Type} {f : α → Option β} : ∀ {xs : List α} {ys : List β}, allSome f xs = some ys → xs.map f = ys.map some
  | [], ys, h => by cases h; rfl
  | x :: xs, ys, h => by
    unfold allSome at h
    cases e : f x with
    | none => rw [e] at h; cases h
    | some y =>
      rw [e, Option.bind_some] at h
      cases e2 : allSome f xs with
      | none => rw [e2] at h; cases h
      | some zs =>
        rw [e2] at h
        cases h
        rw [List.map_cons, List.map_cons, e, allSome_yes e2]
theorem allSome_any {α β : Type} {f : α → Option β} : ∀ {xs : List α}, (xs.any fun x => (f x).isNone) = (allSome f xs).isNone
  | [] => rfl
  | x :: xs => by
    rw [List.any_cons]
    unfold allSome
    cases e : f x with
    | none => rfl
    | some y =>
      rw [allSome_any]
      cases allSome f xs <;> rfl
theorem allSome_len {α β : Type} {f : α → Option β} {xs : List α} {ys : List β} (h : allSome f xs = some ys) : ys.length = xs.length := by
  have := congrArg List.length (allSome_yes h)
  simpa using this.symm
def wdP (w : Int × Int × Int) : PyData := .tuple [.int w.1, .int w.2.1, .int w.2.2]
def oP {α : Type} (f : α → PyData) : Option α → PyData
  | some x => f x
  | none => .none
theorem none_in {α β : Type} {F : α → Option β} {f : β → D} {p : β → PyData} {xs : List α} (h1 : ∀ y, toP (f y) = some (p y)) (h2 : ∀ x ∈ xs, ∀ y, F x = some y → (p y).canLay0 = true) (h3 : ∀ y, ∃ zs, p y = .tuple zs) : inPD .non (.lst (xs.map fun x => oD f (F x))) = some (.bl (allSome F xs).isNone) := by
  rw [in_gen (f := fun x => oD f (F x)) (p := fun x => oP p (F x)) (b := fun x => (F x).isNone) (q := .none) rfl (by decide) (fun x _ => ?_) (fun x m => ?_) (fun x _ => ?_), allSome_any]
  · cases F x with
    | none => rfl
    | some y => exact h1 y
  · cases e : F x with
    | none => rfl
    | some y => exact h2 x m y e
  · cases F x with
    | none => rfl
    | some y =>
      obtain ⟨zs, h⟩ := h3 y
      show PyData.eqv (p y) .none = _
      rw [h]
      rfl
def rdWards (r : Ws) : Option (List (Int × Int × Int)) := (allSome rdWarden r).bind fun es => if riseL ltI (0 :: es.map (·.1)) = true then some es else none
def rdWardens : Ws → Option (List (Int × Int × Int))
  | [] => none
  | w :: r => if w = [47] then rdWards r else none
def wsD (es : List (Int × Int × Int)) : D := .tup (es.map wdD)
theorem read_wardens_spec {ws : Ws} (ha : ∀ w ∈ ws, asc w = true) (hl : ∀ w ∈ ws, w.length ≤ 640) (hn : ws.length ≤ 700) : g_read_wardens [.lst (ws.map dS)] = some (.v (oD wsD (rdWardens ws))) := by
  unfold g_read_wardens t_read_wardens
  cases ws with
  | nil =>
    walk_at "zz"
    rfl
  | cons w r =>
    rw [List.map_cons]
    walk_at "zz"
    rw [show ixD (D.lst (dS w :: r.map dS)) (D.int 0) = some (dS w) from at_nat (a := dS w :: r.map dS) (n := 0) (by simp)]
    walk_at "zz"
    rw [ne_S (ha w List.mem_cons_self) (by decide)]
    by_cases hw : w = [47]
    · rw [decide_eq_true hw, show rdWardens (w :: r) = rdWards r from if_pos hw]
      walk_at "zz"
      have hr1 : r.length ≤ 699 := by simp at hn; omega
      rewrite [dLc_map dS (xs := r) (F := fun a => oD wdD (rdWarden a))]
      case hf => rfl
      case hi =>
        walk_at "zz"
        exact congrArg some (Zc.cut_from (dS w :: r.map dS) 1)
      case hl => omega
      case h =>
        intro x hm
        refine ⟨_, dName_ok rfl, ?_⟩
        walk_at "zz"
        rw [read_warden_spec (ha x (List.mem_cons_of_mem _ hm)) (hl x (List.mem_cons_of_mem _ hm))]
        walk_at "zz"
      walk_at "zz"
      rw [none_in (F := rdWarden) (f := wdD) (p := wdP) (fun _ => rfl) (fun _ _ _ _ => rfl) fun _ => ⟨_, rfl⟩]
      unfold rdWards
      cases he : allSome rdWarden r with
      | none => walk_at "zz"; rfl
      | some es =>
        have hes := allSome_len he
        have e3 : (r.map fun a => oD wdD (rdWarden a)) = es.map wdD := by
          have := congrArg (List.map (oD wdD)) (allSome_yes he)
          rw [List.map_map, List.map_map] at this
          exact this
        rw [e3]
        walk_at "zz"
        rewrite [dLc_map wdD (xs := es) (F := fun e => D.int e.1)]
        case hf => rfl
        case hi => walk_at "zz"
        case hl => omega
        case h =>
          intro e hm
          exact ⟨_, rfl, rfl⟩
        walk_at "zz"
        rw [show (es.map fun e => D.int e.1) = iL (es.map (·.1)) from by unfold iL; rw [List.map_map]; rfl, count_spec (by rw [List.length_map]; omega), Option.bind_some]
        cases hc : riseL ltI (0 :: es.map (·.1))
        · walk_at "zz"
          rfl
        · walk_at "zz"
          rfl
    · rw [decide_eq_false hw, show rdWardens (w :: r) = none from if_neg hw]
      walk_at "zz"
      rfl
end Rk
end

section
set_option Elab.async false
set_option linter.all false
set_option maxRecDepth 100000
set_option maxHeartbeats 4000000
/-! Records read, at last: a picture, a put, a deal, a cap, an erase. -/
namespace Rk
open PySem L2 Zk Zc Zj Zd
inductive Rec where
  | pic (caps : List Int) (ns : List (L × List Int)) (es : List (Int × Int × Int))
  | put (n : L) (is : List Int) (es : List (Int × Int × Int))
  | era (n : L)
  | deal (es : List (Int × Int × Int))
  | cap (s c : Int) (es : List (Int × Int × Int))
def recD : Rec → D
  | .pic caps ns es => .tup [dS (codes "picture"), .tup (iL caps), .tup (ns.map nmD), wsD es]
  | .put n is es => .tup [dS (codes "put"), dS n, .tup (iL is), wsD es]
  | .era n => .tup [dS (codes "erase"), dS n]
  | .deal es => .tup [dS (codes "deal"), wsD es]
  | .cap s c es => .tup [dS (codes "cap"), .int s, .int c, wsD es]
def rdPut : Ws → Option Rec
  | [] => none
  | w :: r => (rdName w).bind fun n => (rdWardens r).map fun es => .put n.1 n.2 es
theorem is_o1 {o : Option (List Int)} : isD (numsD o) .non = some (.bl o.isNone) := by cases o <;> rfl
theorem is_o2 {o : Option (List (Int × Int × Int))} : isD (oD wsD o) .non = some (.bl o.isNone) := by cases o <;> rfl
theorem is_o3 {o : Option (L × List Int)} : isD (oD nmD o) .non = some (.bl o.isNone) := by cases o <;> rfl
local macro_rules | `(tactic| walk_at "zs") => `(tactic| simp only [beq_self_eq_true, Bool.or_false, Bool.false_or, Bool.true_or, Bool.or_true, Bool.and_false, Bool.false_and, Bool.true_and, Bool.and_true, Zc.isi_ii, Zc.isi_ib, Zc.isi_tt, Zc.isi_ll, Zc.rowsT_len, Zc.rowsL_len, Zc.is_integer_call, Zc.ix_p0, Zc.ix_p1, dgTup2_a, dgTup3_a, Bool.not_true, Bool.not_false, mul_lz, List.flatten_cons, List.flatten_nil, Int.reduceToNat, add_ll, pow10_12, pow10_18, pow10_39, pow10_41, pow10_59, pow10_60, mkLst_some, mkTup_some, List.length_cons, List.length_nil, Nat.zero_le, Nat.reduceAdd, Nat.reduceLeDiff, call1, callO1, call2, callO2, call3, callO3, call4, callO4, call5, callO5, call6, callO6, ap1_some, ap2_some, apN_some, apC_some, d1_a, d2_a, dN_a, aNil_a, aCons_a, dC_a, dVar_z, dVar_s, tDt_a, apAnd_t, apAnd_f, apOr_t, apOr_f, dAndT_a, dOrT_a, apNot_some, dNotT_a, apAndV_t, apAndV_f, dAndV_a, apOrV_t, apOrV_f, dOrV_a, apIf_t, apIf_f, dIf_a, apCh_t, apCh_f, apChain_some, dChain_a, apSeq_nx, apSeq_rt, apSeq_ct, apSeq_bk, sSeq_a, apIfS_t, apIfS_f, sIf_a, sNext_a, sCont_a, sBreak_a, apRet_some, sRet_a, apRetO_some, sRetO_a, sRetN_a, getO_z, getO_s, apRetV_some, sRetV_a, ltB_z, ltB_s, okSlot_s, apAsg_some, sAsg_a, dName_ok, apG_some, dgCons_a, dgNil_a, apAsgO_some, sAsgO_a, sApp_a, sSetI_a, apFor_some, sFor_a, dItems_a, dRng1_a, dRng2_a, apEn_some, apEn_tup, dEnum_a, sFrz_a, frzs_nil, frzs_cons, frzI_o, frzI_v, frzI_n, frzI_s, frz1_s, frzAll_nil, frzAll_o, frzAll_v, frzAll_n, peekT_a, apPk_int, apPk_bl, apPk_str, apPk_non, peekF_a, dCall_a, toO_o, dCallO_a, dMake_a, Wd_v, Wd_o, dSl_a, apSl_some, oNone_a, oSome_a, apO_some, add_ii, sub_ii, lt_ii, le_ii, gt_ii, ge_ii, eq_ii, ne_ii, neg_i, not_b, bl_b, tru_b, tru_i, tru_l, tru_t, tru_n, len_l, len_t, len_scr, abs_i, int_i, list_l, list_t, tuple_l, tuple_t, min_ii, max_ii, rev_l, items_l, items_t, iL_len, run_a, outW_rt, outW_nx, List.map_cons, List.map_nil, List.replicate, List.append_nil, List.cons_append, List.nil_append, List.set_cons_zero, List.set_cons_succ, Option.map_some])
local macro_rules | `(tactic| walk_at "zd") => `(tactic| first | ((with_reducible show okSlot _ _ = true); simp only [okSlot_s, ltB_z, ltB_s]; done) | omega | assumption | decide | (simp only [List.length_map, List.length_append, List.length_cons, List.length_nil, List.length_range, List.length_set, List.length_reverse, iL_len, Zc.rowsT_len, Zc.rowsL_len] at *; omega))
local macro_rules | `(tactic| walk_at "zz") => `(tactic| simp (disch := walk_at "zd") only [dgTup2_a, dgTup3_a, Bool.not_true, Bool.not_false, mul_lz, List.flatten_cons, List.flatten_nil, Int.reduceToNat, add_ll, pow10_12, pow10_18, pow10_39, pow10_41, pow10_59, pow10_60, mkLst_some, mkTup_some, List.length_cons, List.length_nil, Nat.zero_le, Nat.reduceAdd, Nat.reduceLeDiff, call1, callO1, call2, callO2, call3, callO3, call4, callO4, call5, callO5, call6, callO6, ap1_some, ap2_some, apN_some, apC_some, d1_a, d2_a, dN_a, aNil_a, aCons_a, dC_a, dVar_z, dVar_s, tDt_a, apAnd_t, apAnd_f, apOr_t, apOr_f, dAndT_a, dOrT_a, apNot_some, dNotT_a, apAndV_t, apAndV_f, dAndV_a, apOrV_t, apOrV_f, dOrV_a, apIf_t, apIf_f, dIf_a, apCh_t, apCh_f, apChain_some, dChain_a, apSeq_nx, apSeq_rt, apSeq_ct, apSeq_bk, sSeq_a, apIfS_t, apIfS_f, sIf_a, sNext_a, sCont_a, sBreak_a, apRet_some, sRet_a, apRetO_some, sRetO_a, sRetN_a, getO_z, getO_s, apRetV_some, sRetV_a, ltB_z, ltB_s, okSlot_s, apAsg_some, sAsg_a, dName_ok, apG_some, dgCons_a, dgNil_a, apAsgO_some, sAsgO_a, sApp_a, sSetI_a, apFor_some, sFor_a, dItems_a, dRng1_a, dRng2_a, apEn_some, apEn_tup, dEnum_a, sFrz_a, frzs_nil, frzs_cons, frzI_o, frzI_v, frzI_n, frzI_s, frz1_s, frzAll_nil, frzAll_o, frzAll_v, frzAll_n, peekT_a, apPk_int, apPk_bl, apPk_str, apPk_non, peekF_a, dCall_a, toO_o, dCallO_a, dMake_a, Wd_v, Wd_o, dSl_a, apSl_some, oNone_a, oSome_a, apO_some, add_ii, sub_ii, lt_ii, le_ii, gt_ii, ge_ii, eq_ii, ne_ii, neg_i, not_b, bl_b, tru_b, tru_i, tru_l, tru_t, tru_n, len_l, len_t, len_scr, abs_i, int_i, list_l, list_t, tuple_l, tuple_t, min_ii, max_ii, rev_l, items_l, items_t, iL_len, run_a, outW_rt, outW_nx, List.map_cons, List.map_nil, List.replicate, List.append_nil, List.cons_append, List.nil_append, List.set_cons_zero, List.set_cons_succ, Option.map_some, Int.reduceAdd, Int.reduceMul, Int.reduceSub, Int.reduceNeg, beq_self_eq_true, Bool.or_false, Bool.false_or, Bool.true_or, Bool.or_true, Bool.and_false, Bool.false_and, Bool.true_and, Bool.and_true, Zc.isi_ii, Zc.isi_ib, Zc.isi_tt, Zc.isi_ll, Zc.rowsT_len, Zc.rowsL_len, Zc.is_integer_call, Zc.ix_p0, Zc.ix_p1, apR1_any, Int.toNat_natCast, apR2_some, mod_ii, fdiv_ii, mul_small, apApp_some, ix_at, ix_atT, ix_atI, ix_atIT, ix_atR, ix_atRT, List.length_map, List.length_append, List.length_range, List.length_set, Option.map_none, Option.map_map, decide_true, decide_false, peekO_a, apPkO_i, frz_wo, frz_wv, frz_kk, wipeG_nil, wipeG_cons, orB_s, orB_t, orB_f, andB_s, andB_t, andB_f, orV_s, orV_t, orV_f, andV_s, andV_t, andV_f, apOr_b, apAnd_b, apOrV_b, apAndV_b, apCh_b, Zc.cut_from, Zc.cut_to, in_l, in_t, in_pr, eq_op_op, eq_op_pr, eq_pr_op, eq_pr_pr, ne_op_op, ne_op_pr, ne_pr_op, ne_pr_pr, isnt_op, is_op, pr_0, pr_1, st_0, st_1, inP_pr, ninP_pr, nin_l, isi_prt, len_pr, op_some, prD_eq, ix_lit2, ix_lit3, ix_lit4, ix_lit5, ix_lit6, ix_lit7, ix_lit8, ix_lit9, ix_lit10, ix_lit11, ix_lit12, ix_lit13, ix_lit14, ix_lit15, setI_i, setI_p, setI_o, setI_n, snoc_i, snoc_r, snoc_p, snoc_n, snoc_o, snoc_pp, snoc_s, eq_ol, ne_ol, eq_pl, ne_pl, eq_sl, ne_sl, eq_il, ne_il, eq_rl, ne_rl, eq_il1, isi_bb, eq_bb, ne_bb, eq_self, lit, dM1_a, apM1_S, dM0_a, apM0_S, Bool.not_true, Bool.not_false, is_tn, is_nn, is_ln, dTxt_a, apTxt_S, Int.reduceBEq, ca, cz, c0, c9, cComma, cEq, cCol, cSl, cSemi, cSp, dZip_a, apZip_l, is_o1, is_o2, is_o3, List.isEmpty_nil, List.isEmpty_cons, Bool.false_eq_true, reduceIte, Option.isNone_none, Option.isNone_some, sStar_a])
local macro_rules | `(tactic| walk_at "zf") => `(tactic| first | (walk_at "zz"; done) | (walk_at "zz"; rfl) | rfl)
local macro_rules | `(tactic| walk_at "lc") => `(tactic| ((case hf => rfl); (case hi => first | (walk_at "zz"; done) | (walk_at "zz"; rfl) | rfl); (case hl => walk_at "zd"); (case h => (intro a ha; refine ⟨_, dName_ok rfl, ?_, fun hT => ?_⟩ <;> walk_at "zz" <;> rfl))))
local macro_rules | `(tactic| walk_at "lm") => `(tactic| ((case hf => rfl); (case hi => first | (walk_at "zz"; done) | (walk_at "zz"; rfl) | rfl); (case hl => walk_at "zd"); (case h => (intro a ha; refine ⟨_, dName_ok rfl, ?_⟩; walk_at "zz"; rfl))))
theorem read_put_spec {ws : Ws} (ha : ∀ w ∈ ws, asc w = true) (hl : ∀ w ∈ ws, w.length ≤ 640) (hn : ws.length ≤ 700) : g_read_put [.lst (ws.map dS)] = some (.v (oD recD (rdPut ws))) := by
  unfold g_read_put t_read_put
  cases ws with
  | nil =>
    walk_at "zz"
    rw [show cutL ([] : List D) (some 1) none = ([] : Ws).map dS from rfl, read_wardens_spec (ws := []) (by simp) (by simp) (by simp)]
    walk_at "zz"
    rfl
  | cons w r =>
    rw [List.map_cons]
    walk_at "zz"
    rw [show ixD (D.lst (dS w :: r.map dS)) (D.int 0) = some (dS w) from at_nat (a := dS w :: r.map dS) (n := 0) (by simp)]
    walk_at "zz"
    rw [read_name_spec (ha w List.mem_cons_self) (hl w List.mem_cons_self)]
    walk_at "zz"
    rw [show cutL (dS w :: r.map dS) (some 1) none = r.map dS from Zc.cut_from (dS w :: r.map dS) 1, read_wardens_spec (fun x m => ha x (List.mem_cons_of_mem _ m)) (fun x m => hl x (List.mem_cons_of_mem _ m)) (by simp at hn; omega)]
    show _ = some (Wd.v (oD recD ((rdName w).bind fun n => (rdWardens r).map fun es => .put n.1 n.2 es)))
    cases rdName w with
    | none => walk_at "zz"; rfl
    | some n =>
      cases rdWardens r with
      | none => walk_at "zz"; rfl
      | some es => walk_at "zz"; rfl
end Rk
end

section
set_option Elab.async false
set_option linter.all false
set_option maxRecDepth 100000
set_option maxHeartbeats 4000000
/-! Lines as words; texts that are no pool's. -/
namespace Zd
open PySem L2 Zk Zc Zj
abbrev Ws := List (List Nat)
structure WsOk (ws : Ws) : Prop where
  ne : ws ≠ []
  ln : ws.length ≤ 30
  w : ∀ p ∈ ws, 32 ∉ p ∧ 10 ∉ p ∧ asc p = true ∧ p.length ≤ 90
def behW (w : List Nat) : Ws → Option (List Int)
  | [] => none
  | p :: ps => if p = w ∧ ps.all isNum = true then some (ps.map val) else none
theorem joinL_mem {s : List Nat} {c : Nat} : ∀ {ws : Ws}, c ∈ TL.joinL s ws → c ∈ s ∨ ∃ p ∈ ws, c ∈ p
  | [], h => by cases h
  | [p], h => Or.inr ⟨p, List.mem_cons_self, h⟩
  | p :: q :: r, h => by
    rcases List.mem_append.mp (show c ∈ p ++ (s ++ TL.joinL s (q :: r)) from h) with z | z
    · exact Or.inr ⟨p, List.mem_cons_self, z⟩
    · rcases List.mem_append.mp z with z | z
      · exact Or.inl z
      · rcases joinL_mem z with y | ⟨x, hx, y⟩
        · exact Or.inl y
        · exact Or.inr ⟨x, List.mem_cons_of_mem _ hx, y⟩
/-! ### rows and what is behind them -/
/-! ### which row is the first wrong one -/
def okPiece (n : Nat) (ws : Ws) : Prop := ∃ ns, behW wPiece ws = some ns ∧ Asc n ns
inductive Bad (R : List Ws) (rest : List Nat) : Nat → Prop where
  | first (h : ∀ ws, R.head? = some ws → ∀ cs, behW wSeats ws = some cs → cs = []) : Bad R rest 0
  | row {k : Nat} {ws0 ws : Ws} {R' : List Ws} {cs : List Int} (e : R = ws0 :: R') (h0 : behW wSeats ws0 = some cs) (hc : cs ≠ []) (hk : R'[k]? = some ws) (hb : ∀ (j : Nat) (v : Ws), j < k → R'[j]? = some v → okPiece cs.length v) (hw : ¬ okPiece cs.length ws) : Bad R rest (k + 1)
  | rest {ws0 : Ws} {R' : List Ws} {cs : List Int} (e : R = ws0 :: R') (h0 : behW wSeats ws0 = some cs) (hc : cs ≠ []) (hb : ∀ v ∈ R', okPiece cs.length v) (hr : rest ≠ []) : Bad R rest (R'.length + 1)
/-! ### the rows of a pool -/
structure RowsOk (caps : List Int) (hs : List (List Int)) : Prop where
  c1 : caps ≠ []
  c12 : caps.length ≤ 12
  c0 : ∀ x ∈ caps, 0 ≤ x ∧ x < 10 ^ 60
  hl : hs.length ≤ 26
  asc : ∀ h ∈ hs, Asc caps.length h
theorem num_ok {c : Int} (h0 : 0 ≤ c) (h : c < 10 ^ 60) : 32 ∉ num c ∧ 10 ∉ num c ∧ asc (num c) = true ∧ (num c).length ≤ 90 := ⟨num_free (Or.inl (by decide)), num_free (Or.inl (by decide)), num_asc c, by have := num_len h0 h; omega⟩
theorem ws_nums {w : List Nat} {ns : List Int} (hw : 32 ∉ w ∧ 10 ∉ w ∧ asc w = true ∧ w.length ≤ 90) (h0 : ∀ x ∈ ns, 0 ≤ x ∧ x < 10 ^ 60) (hl : ns.length ≤ 29) : WsOk (w :: ns.map num) := ⟨by simp, by simp; omega, fun p hp => by
  rcases List.mem_cons.mp hp with rfl | hp
  · exact hw
  · obtain ⟨x, hx, rfl⟩ := List.mem_map.mp hp
    exact num_ok (h0 x hx).1 (h0 x hx).2⟩
section
variable {caps : List Int} {hs : List (List Int)}
theorem asc_bd {n : Nat} {h : List Int} (hn : n ≤ 12) (ha : Asc n h) : (∀ x ∈ h, 0 ≤ x ∧ x < 10 ^ 60) ∧ h.length ≤ 12 := by
  have hl := ha.len
  refine ⟨fun x hx => ?_, by omega⟩
  have := ha.2 x hx
  exact ⟨this.1, Int.lt_trans this.2 (by have : (n : Int) ≤ 12 := by omega
                                         exact Int.lt_of_le_of_lt this (by decide))⟩
/-- the kind of a row: the first, or a piece's -/
inductive RowIs (n : Nat) : List Nat → List Int → Prop where
  | seats {ns : List Int} (h : ns ≠ []) (h2 : ns.length ≤ 12) (h0 : ∀ x ∈ ns, 0 ≤ x ∧ x < 10 ^ 60) : RowIs n wSeats ns
  | piece {ns : List Int} (h : Asc n ns) : RowIs n wPiece ns
theorem RowIs.bd {n : Nat} {w : List Nat} {ns : List Int} (hn : n ≤ 12) (h : RowIs n w ns) : (∀ x ∈ ns, 0 ≤ x ∧ x < 10 ^ 60) ∧ ns.length ≤ 12 := by
  cases h with
  | seats h h2 h0 => exact ⟨h0, h2⟩
  | piece h => exact asc_bd hn h
theorem RowIs.wd {n : Nat} {w : List Nat} {ns : List Int} (h : RowIs n w ns) : 32 ∉ w ∧ 10 ∉ w ∧ Zj.asc w = true ∧ w.length = 5 := by
  cases h with
  | seats h h2 h0 => decide
  | piece h => decide
theorem RowIs.ws {n : Nat} {w : List Nat} {ns : List Int} (hn : n ≤ 12) (h : RowIs n w ns) : WsOk (w :: ns.map num) := ws_nums ⟨h.wd.1, h.wd.2.1, h.wd.2.2.1, by have := h.wd.2.2.2; omega⟩ (h.bd hn).1 (by have := (h.bd hn).2; omega)
end
end Zd
end

section
set_option Elab.async false
set_option linter.all false
set_option maxRecDepth 100000
set_option maxHeartbeats 4000000
/-! The text of a record, and that it reads as the record. -/
namespace Rk
open PySem L2 Zk Zc Zj Zd
def joinN (ns : List Int) : L := TL.joinL [44] (ns.map num)
def wdT (e : Int × Int × Int) : L := num e.1 ++ 58 :: joinN [e.2.1, e.2.2]
def nmT (n : L × List Int) : L := n.1 ++ 61 :: joinN n.2
def wordsOf : Rec → Ws
  | .pic caps ns es => codes "picture" :: joinN caps :: (ns.map nmT ++ [47] :: es.map wdT)
  | .put n is es => codes "put" :: nmT (n, is) :: [47] :: es.map wdT
  | .era n => [codes "erase", n]
  | .deal es => codes "deal" :: [47] :: es.map wdT
  | .cap s c es => codes "cap" :: num s :: num c :: [47] :: es.map wdT
def bodyOf (r : Rec) : L := TL.joinL [32] (wordsOf r)
def textOf (r : Rec) : L := bodyOf r ++ [59]
structure NumOk (x : Int) : Prop where
  h0 : 0 ≤ x
  h1 : x < 10 ^ 60
structure EsOk (es : List (Int × Int × Int)) : Prop where
  n : ∀ e ∈ es, NumOk e.1 ∧ NumOk e.2.1 ∧ NumOk e.2.2 ∧ e.2.1 < e.2.2
  up : riseL ltI (0 :: es.map (·.1)) = true
structure NmOk (n : L × List Int) : Prop where
  nm : isName n.1 = true
  ok : ∀ x ∈ n.2, NumOk x
  up : riseL ltI (0 :: n.2) = true
def RecOk : Rec → Prop
  | .pic caps ns es => caps ≠ [] ∧ (∀ x ∈ caps, NumOk x) ∧ (∀ n ∈ ns, NmOk n) ∧ riseL ltS (ns.map (·.1)) = true ∧ EsOk es
  | .put n is es => NmOk (n, is) ∧ EsOk es
  | .era n => isName n = true
  | .deal es => EsOk es
  | .cap s c es => NumOk s ∧ NumOk c ∧ EsOk es
/-! ### signs -/
def okc (c : Nat) : Bool := nch c || decide (c = 44) || decide (c = 58) || decide (c = 61) || decide (c = 47)
theorem okc_no {c : Nat} (h : okc c = true) : c ≠ 32 ∧ c ≠ 59 ∧ c ≠ 10 ∧ c < 128 := by
  unfold okc nch at h
  simp only [Bool.or_eq_true, Bool.and_eq_true, decide_eq_true_eq] at h
  omega
theorem dig_okc {c : Nat} (h : dig c = true) : okc c = true := by
  unfold dig at h
  unfold okc nch
  simp only [Bool.or_eq_true, Bool.and_eq_true, decide_eq_true_eq] at h ⊢
  omega
theorem nch_okc {c : Nat} (h : nch c = true) : okc c = true := by
  unfold okc
  rw [h]
  rfl
def okW (w : L) : Prop := ∀ c ∈ w, okc c = true
theorem okW_cons {x : Nat} {b : L} (hx : okc x = true) (hb : okW b) : okW (x :: b) := fun c m => (List.mem_cons.mp m).elim (fun z => by rw [z]; exact hx) (hb c)
theorem okW_num (x : Int) : okW (num x) := fun c m => dig_okc (List.all_eq_true.mp (num_dig x) c m)
theorem okW_name {n : L} (h : isName n = true) : okW n := fun c m => by
  unfold isName at h
  rw [Bool.and_eq_true] at h
  exact nch_okc (List.all_eq_true.mp h.2 c m)
theorem okW_join {ws : Ws} {s : L} (hs : okW s) (h : ∀ w ∈ ws, okW w) : okW (TL.joinL s ws) := fun c m => by
  rcases Zd.joinL_mem m with z | ⟨p, hp, z⟩
  · exact hs c z
  · exact h p hp c z
theorem okW_joinN (ns : List Int) : okW (joinN ns) := okW_join (okW_cons rfl fun c m => by cases m) fun w m => by
  obtain ⟨x, _, rfl⟩ := List.mem_map.mp m
  exact okW_num x
/-! ### the pieces read -/
end Rk
end

section
set_option Elab.async false
set_option linter.all false
set_option maxRecDepth 100000
set_option maxHeartbeats 4000000
/-! What the laws on texts share: signs, names, alike. -/
namespace Rk
open PySem L2 Zk Zc Zj Zd
def t_law_sign : SF :=
 (sSeq (sAsg (dC (.str " !\"#$&'()*+,-./0123456789:;<=>?@ABCDEFGHIJKLMNOPQRSTUVWXYZ[\\]^_`")) (dName 1))
 (sSeq (sAsg (d2 addD (dVar 1) (dC (.str "abcdefghijklmnopqrstuvwxyz{|}~"))) (dName 1))
 (sRet (d2 ixD (dVar 1) (d2 modD (dN intD (aCons (dVar 0) aNil)) (dC (.int 94)))))))
def g_law_sign : PF := runG 1 (t_law_sign)
def t_law_names : SF :=
 (sSeq (sAsg (dCall 2 (Zc.g_law_draws) (aCons (dVar 0) (aCons (d2 addD (d2 addD (d2 mulD (dN mkLst (aCons (dC (.int 36)) aNil)) (dC (.int 12))) (d2 mulD (dN mkLst (aCons (dC (.int 12)) aNil)) (dC (.int 4)))) (d2 mulD (dN mkLst (aCons (dC (.int 36)) aNil)) (dC (.int 4)))) aNil))) (dName 1))
 (sSeq (sAsg (dC (.str "abcdefghijklmnopqrstuvwxyz0123456789")) (dName 2))
 (sSeq (sAsg (Zj.dM1 Zj.joinD (dC (.str "")) (dLc (dRng1 (aCons (dC (.int 12)) aNil)) (dName 5) dYes (d2 ixD (dVar 2) (d2 ixD (dVar 1) (dVar 5))) [5])) (dName 3))
 (sSeq (sAsgO (dN mkLst aNil) 4)
 (sSeq (sFor (dRng1 (aCons (dC (.int 4)) aNil)) (dName 5)
 (sSeq (sAsg (d2 ixD (dVar 1) (d2 addD (dC (.int 12)) (dVar 5))) (dName 6))
 (sApp 4 (d2 addD (Zj.dSlS (dVar 3) oNone (oSome (dVar 6))) (d2 ixD (dVar 2) (d2 ixD (dVar 1) (d2 addD (dC (.int 16)) (dVar 5))))))))
 (sRetV 4))))))
def g_law_names : PF := runG 6 (t_law_names)

theorem isi_st (a : L) : isiD [dS a, .ty "str"] = some (.bl true) := rfl
theorem isi_stt (a : L) : isiD [dS a, .ty "tuple"] = some (.bl false) := rfl
theorem isi_is (a : Int) : isiD [.int a, .ty "str"] = some (.bl false) := rfl
theorem isi_itt (a : Int) : isiD [.int a, .ty "tuple"] = some (.bl false) := rfl
theorem isi_ts (a : List D) : isiD [.tup a, .ty "str"] = some (.bl false) := rfl
theorem isi_tt (a : List D) : isiD [.tup a, .ty "tuple"] = some (.bl true) := rfl
theorem isi_call {k : Int} : Zc.g_law_is_integer [.int k] = some (.v (.bl true)) := rfl
def signsL : L := codes " !\"#$&'()*+,-./0123456789:;<=>?@ABCDEFGHIJKLMNOPQRSTUVWXYZ[\\]^_`" ++ codes "abcdefghijklmnopqrstuvwxyz{|}~"
theorem signs_ok : ∀ k < 94, signsL.getD k 0 < 128 ∧ signsL.getD k 0 ≠ 10 := by decide +kernel
local macro_rules | `(tactic| walk_at "zs") => `(tactic| simp only [beq_self_eq_true, Bool.or_false, Bool.false_or, Bool.true_or, Bool.or_true, Bool.and_false, Bool.false_and, Bool.true_and, Bool.and_true, Zc.isi_ii, Zc.isi_ib, Zc.isi_tt, Zc.isi_ll, Zc.rowsT_len, Zc.rowsL_len, Zc.is_integer_call, Zc.ix_p0, Zc.ix_p1, dgTup2_a, dgTup3_a, Bool.not_true, Bool.not_false, mul_lz, List.flatten_cons, List.flatten_nil, Int.reduceToNat, add_ll, pow10_12, pow10_18, pow10_39, pow10_41, pow10_59, pow10_60, mkLst_some, mkTup_some, List.length_cons, List.length_nil, Nat.zero_le, Nat.reduceAdd, Nat.reduceLeDiff, call1, callO1, call2, callO2, call3, callO3, call4, callO4, call5, callO5, call6, callO6, ap1_some, ap2_some, apN_some, apC_some, d1_a, d2_a, dN_a, aNil_a, aCons_a, dC_a, dVar_z, dVar_s, tDt_a, apAnd_t, apAnd_f, apOr_t, apOr_f, dAndT_a, dOrT_a, apNot_some, dNotT_a, apAndV_t, apAndV_f, dAndV_a, apOrV_t, apOrV_f, dOrV_a, apIf_t, apIf_f, dIf_a, apCh_t, apCh_f, apChain_some, dChain_a, apSeq_nx, apSeq_rt, apSeq_ct, apSeq_bk, sSeq_a, apIfS_t, apIfS_f, sIf_a, sNext_a, sCont_a, sBreak_a, apRet_some, sRet_a, apRetO_some, sRetO_a, sRetN_a, getO_z, getO_s, apRetV_some, sRetV_a, ltB_z, ltB_s, okSlot_s, apAsg_some, sAsg_a, dName_ok, apG_some, dgCons_a, dgNil_a, apAsgO_some, sAsgO_a, sApp_a, sSetI_a, apFor_some, sFor_a, dItems_a, dRng1_a, dRng2_a, apEn_some, apEn_tup, dEnum_a, sFrz_a, frzs_nil, frzs_cons, frzI_o, frzI_v, frzI_n, frzI_s, frz1_s, frzAll_nil, frzAll_o, frzAll_v, frzAll_n, peekT_a, apPk_int, apPk_bl, apPk_str, apPk_non, peekF_a, dCall_a, toO_o, dCallO_a, dMake_a, Wd_v, Wd_o, dSl_a, apSl_some, oNone_a, oSome_a, apO_some, add_ii, sub_ii, lt_ii, le_ii, gt_ii, ge_ii, eq_ii, ne_ii, neg_i, not_b, bl_b, tru_b, tru_i, tru_l, tru_t, tru_n, len_l, len_t, len_scr, abs_i, int_i, list_l, list_t, tuple_l, tuple_t, min_ii, max_ii, rev_l, items_l, items_t, iL_len, run_a, outW_rt, outW_nx, List.map_cons, List.map_nil, List.replicate, List.append_nil, List.cons_append, List.nil_append, List.set_cons_zero, List.set_cons_succ, Option.map_some])
local macro_rules | `(tactic| walk_at "zd") => `(tactic| first | ((with_reducible show okSlot _ _ = true); simp only [okSlot_s, ltB_z, ltB_s]; done) | omega | assumption | decide | (simp only [List.length_map, List.length_append, List.length_cons, List.length_nil, List.length_range, List.length_set, List.length_reverse, iL_len, Zc.rowsT_len, Zc.rowsL_len] at *; omega))
local macro_rules | `(tactic| walk_at "zz") => `(tactic| simp (disch := walk_at "zd") only [dgTup2_a, dgTup3_a, Bool.not_true, Bool.not_false, mul_lz, List.flatten_cons, List.flatten_nil, Int.reduceToNat, add_ll, pow10_12, pow10_18, pow10_39, pow10_41, pow10_59, pow10_60, mkLst_some, mkTup_some, List.length_cons, List.length_nil, Nat.zero_le, Nat.reduceAdd, Nat.reduceLeDiff, call1, callO1, call2, callO2, call3, callO3, call4, callO4, call5, callO5, call6, callO6, ap1_some, ap2_some, apN_some, apC_some, d1_a, d2_a, dN_a, aNil_a, aCons_a, dC_a, dVar_z, dVar_s, tDt_a, apAnd_t, apAnd_f, apOr_t, apOr_f, dAndT_a, dOrT_a, apNot_some, dNotT_a, apAndV_t, apAndV_f, dAndV_a, apOrV_t, apOrV_f, dOrV_a, apIf_t, apIf_f, dIf_a, apCh_t, apCh_f, apChain_some, dChain_a, apSeq_nx, apSeq_rt, apSeq_ct, apSeq_bk, sSeq_a, apIfS_t, apIfS_f, sIf_a, sNext_a, sCont_a, sBreak_a, apRet_some, sRet_a, apRetO_some, sRetO_a, sRetN_a, getO_z, getO_s, apRetV_some, sRetV_a, ltB_z, ltB_s, okSlot_s, apAsg_some, sAsg_a, dName_ok, apG_some, dgCons_a, dgNil_a, apAsgO_some, sAsgO_a, sApp_a, sSetI_a, apFor_some, sFor_a, dItems_a, dRng1_a, dRng2_a, apEn_some, apEn_tup, dEnum_a, sFrz_a, frzs_nil, frzs_cons, frzI_o, frzI_v, frzI_n, frzI_s, frz1_s, frzAll_nil, frzAll_o, frzAll_v, frzAll_n, peekT_a, apPk_int, apPk_bl, apPk_str, apPk_non, peekF_a, dCall_a, toO_o, dCallO_a, dMake_a, Wd_v, Wd_o, dSl_a, apSl_some, oNone_a, oSome_a, apO_some, add_ii, sub_ii, lt_ii, le_ii, gt_ii, ge_ii, eq_ii, ne_ii, neg_i, not_b, bl_b, tru_b, tru_i, tru_l, tru_t, tru_n, len_l, len_t, len_scr, abs_i, int_i, list_l, list_t, tuple_l, tuple_t, min_ii, max_ii, rev_l, items_l, items_t, iL_len, run_a, outW_rt, outW_nx, List.map_cons, List.map_nil, List.replicate, List.append_nil, List.cons_append, List.nil_append, List.set_cons_zero, List.set_cons_succ, Option.map_some, Int.reduceAdd, Int.reduceMul, Int.reduceSub, Int.reduceNeg, beq_self_eq_true, Bool.or_false, Bool.false_or, Bool.true_or, Bool.or_true, Bool.and_false, Bool.false_and, Bool.true_and, Bool.and_true, Zc.isi_ii, Zc.isi_ib, Zc.isi_tt, Zc.isi_ll, Zc.rowsT_len, Zc.rowsL_len, Zc.is_integer_call, Zc.ix_p0, Zc.ix_p1, apR1_any, Int.toNat_natCast, apR2_some, mod_ii, fdiv_ii, mul_small, apApp_some, ix_at, ix_atT, ix_atI, ix_atIT, ix_atR, ix_atRT, List.length_map, List.length_append, List.length_range, List.length_set, Option.map_none, Option.map_map, decide_true, decide_false, peekO_a, apPkO_i, frz_wo, frz_wv, frz_kk, wipeG_nil, wipeG_cons, orB_s, orB_t, orB_f, andB_s, andB_t, andB_f, orV_s, orV_t, orV_f, andV_s, andV_t, andV_f, apOr_b, apAnd_b, apOrV_b, apAndV_b, apCh_b, Zc.cut_from, Zc.cut_to, in_l, in_t, in_pr, eq_op_op, eq_op_pr, eq_pr_op, eq_pr_pr, ne_op_op, ne_op_pr, ne_pr_op, ne_pr_pr, isnt_op, is_op, pr_0, pr_1, st_0, st_1, inP_pr, ninP_pr, nin_l, isi_prt, len_pr, op_some, prD_eq, ix_lit2, ix_lit3, ix_lit4, ix_lit5, ix_lit6, ix_lit7, ix_lit8, ix_lit9, ix_lit10, ix_lit11, ix_lit12, ix_lit13, ix_lit14, ix_lit15, setI_i, setI_p, setI_o, setI_n, snoc_i, snoc_r, snoc_p, snoc_n, snoc_o, snoc_pp, snoc_s, eq_ol, ne_ol, eq_pl, ne_pl, eq_sl, ne_sl, eq_il, ne_il, eq_rl, ne_rl, eq_il1, isi_bb, eq_bb, ne_bb, eq_self, lit, dM1_a, apM1_S, dM0_a, apM0_S, Bool.not_true, Bool.not_false, dSlS_w, apSl_s, Int.reduceBEq, is_tn, is_nn, isi_st, isi_stt, isi_is, isi_itt, isi_ts, isi_tt, isi_call])
local macro_rules | `(tactic| walk_at "zf") => `(tactic| first | (walk_at "zz"; done) | (walk_at "zz"; rfl) | rfl)
local macro_rules | `(tactic| walk_at "lc") => `(tactic| ((case hf => rfl); (case hi => first | (walk_at "zz"; done) | (walk_at "zz"; rfl) | rfl); (case hl => walk_at "zd"); (case h => (intro a ha; refine ⟨_, dName_ok rfl, ?_, fun hT => ?_⟩ <;> walk_at "zz" <;> rfl))))
local macro_rules | `(tactic| walk_at "lm") => `(tactic| ((case hf => rfl); (case hi => first | (walk_at "zz"; done) | (walk_at "zz"; rfl) | rfl); (case hl => walk_at "zd"); (case h => (intro a ha; refine ⟨_, dName_ok rfl, ?_⟩; walk_at "zz"; rfl))))
/-- a text that is joined of signs, one for each number of a range -/
theorem join_rng {it : DIF} {te : DF} {g : Gm} {n m : Nat} (hn : n ≤ 1000) (P : Nat → Prop) (hf : free g [m] = true) (hi : it g = some (rngL 0 n))
    (h : ∀ i, i < n → ∃ g1 c, dName m (.int (0 + (i : Int))) (wipeG g [m]) = some g1 ∧ te g1 = some (dS [c]) ∧ P c) :
    ∃ l : L, dLc it (dName m) dYes te [m] g = some (.lst (l.map fun c => dS [c])) ∧ l.length = n ∧ ∀ c ∈ l, P c := by
  classical
  have h' : ∀ i, ∃ c, i < n → ∃ g1, dName m (.int (0 + (i : Int))) (wipeG g [m]) = some g1 ∧ te g1 = some (dS [c]) ∧ P c := fun i => by
    by_cases hin : i < n
    · obtain ⟨g1, c, e1, e2, e3⟩ := h i hin
      exact ⟨c, fun _ => ⟨g1, e1, e2, e3⟩⟩
    · exact ⟨0, fun z => absurd z hin⟩
  obtain ⟨F, hF⟩ := Classical.axiomOfChoice h'
  refine ⟨(List.range n).map F, ?_, by rw [List.length_map, List.length_range], fun c hc => ?_⟩
  · rw [dLc_map (fun i : Nat => D.int (0 + (i : Int))) (xs := List.range n) (F := fun i => dS [F i]) hf (hi.trans rfl) (by rw [List.length_range]; omega) fun i hm => by
      obtain ⟨g1, e1, e2, _⟩ := hF i (List.mem_range.mp hm)
      exact ⟨g1, e1, e2⟩]
    rw [List.map_map]
    rfl
  · obtain ⟨i, hm, rfl⟩ := List.mem_map.mp hc
    obtain ⟨g1, _, _, e3⟩ := hF i (List.mem_range.mp hm)
    exact e3
/-! ### alike -/
def atom (d : D) : Prop := (∃ a, d = dS a ∧ asc a = true) ∨ ∃ i, d = .int i
def plain : Nat → D → Prop
  | 0, d => atom d
  | n + 1, d => atom d ∨ ∃ ds, d = .tup ds ∧ ds.length ≤ 1000 ∧ ∀ x ∈ ds, plain n x
theorem atom_plain {d : D} (h : atom d) : ∀ n, plain n d
  | 0 => h
  | n + 1 => .inl h
theorem plain_tup {n : Nat} {ds : List D} (hl : ds.length ≤ 1000) (h : ∀ x ∈ ds, plain n x) : plain (n + 1) (.tup ds) := .inr ⟨ds, rfl, hl, h⟩
theorem atom_i (i : Int) : atom (.int i) := .inr ⟨i, rfl⟩
theorem atom_S {a : L} (h : asc a = true) : atom (dS a) := .inl ⟨a, rfl, h⟩
theorem plain_ints {n : Nat} {ns : List Int} (hl : ns.length ≤ 1000) : plain (n + 1) (.tup (iL ns)) := plain_tup (by rw [iL_len]; exact hl) fun x m => by
  obtain ⟨i, _, rfl⟩ := List.mem_map.mp m
  exact atom_plain (atom_i i) n
theorem okW_asc {a : L} (h : okW a) : asc a = true := List.all_eq_true.mpr fun c m => decide_eq_true (okc_no (h c m)).2.2.2
structure RecSm (r : Rec) : Prop where
  ok : RecOk r
  len : (textOf r).length ≤ 640
theorem joinL_ge {s : L} (hs : 1 ≤ s.length) : ∀ ws : Ws, ws.length ≤ (TL.joinL s ws).length + 1
  | [] => Nat.zero_le _
  | [p] => by show 1 ≤ p.length + 1; omega
  | p :: q :: r => by
    have h := joinL_ge hs (q :: r)
    show (q :: r).length + 1 ≤ (p ++ (s ++ TL.joinL s (q :: r))).length + 1
    rw [List.length_append, List.length_append]
    omega
theorem joinL_part {s w : L} : ∀ {ws : Ws}, w ∈ ws → w.length ≤ (TL.joinL s ws).length
  | [p], h => by rw [List.mem_singleton.mp h]; exact Nat.le_refl _
  | p :: q :: r, h => by
    show w.length ≤ (p ++ (s ++ TL.joinL s (q :: r))).length
    rw [List.length_append, List.length_append]
    rcases List.mem_cons.mp h with z | z
    · rw [z]; omega
    · have := joinL_part (s := s) z
      omega
/-! ### names -/
def ltrs : L := codes "abcdefghijklmnopqrstuvwxyz0123456789"
theorem ltrs_ok : ∀ k < 36, nch (ltrs.getD k 0) = true := by decide +kernel
theorem nsz : ([.int 36, .int 36, .int 36, .int 36, .int 36, .int 36, .int 36, .int 36, .int 36, .int 36, .int 36, .int 36, .int 12, .int 12, .int 12, .int 12, .int 36, .int 36, .int 36, .int 36] : List D) = iL [36, 36, 36, 36, 36, 36, 36, 36, 36, 36, 36, 36, 12, 12, 12, 12, 36, 36, 36, 36] := rfl
theorem names_spec (c : Int) : ∃ W : Ws, g_law_names [.int c] = some (.o (.lst (W.map dS))) ∧ W.length = 4 ∧ ∀ w ∈ W, isName w = true := by
  unfold g_law_names t_law_names
  walk_at "zz"
  obtain ⟨w, e, ds, rfl, hb⟩ := Zc.draws_spec c [36, 36, 36, 36, 36, 36, 36, 36, 36, 36, 36, 36, 12, 12, 12, 12, 36, 36, 36, 36] (by intro s hs; simp only [List.mem_cons, List.not_mem_nil, or_false] at hs; omega) (show (20 : Nat) ≤ 1000 by decide)
  rw [nsz, e]
  have hdl : ds.length = 20 := hb.len
  have b0 : ∀ i : Nat, i < 12 → 0 ≤ at_ ds (0 + (i : Int)) ∧ at_ ds (0 + (i : Int)) < 36 := fun i hi => hb.at (k := 0 + (i : Int)) (s := 36) (by omega) (by
    rw [show (0 + (i : Int)).toNat = i by omega]
    match i, hi with
    | 0, _ => rfl
    | 1, _ => rfl
    | 2, _ => rfl
    | 3, _ => rfl
    | 4, _ => rfl
    | 5, _ => rfl
    | 6, _ => rfl
    | 7, _ => rfl
    | 8, _ => rfl
    | 9, _ => rfl
    | 10, _ => rfl
    | 11, _ => rfl)
  have b1 : ∀ i : Nat, i < 4 → 0 ≤ at_ ds (12 + (i : Int)) ∧ at_ ds (12 + (i : Int)) < 12 := fun i hi => hb.at (k := 12 + (i : Int)) (s := 12) (by omega) (by
    rw [show (12 + (i : Int)).toNat = 12 + i by omega]
    match i, hi with
    | 0, _ => rfl
    | 1, _ => rfl
    | 2, _ => rfl
    | 3, _ => rfl)
  have b2 : ∀ i : Nat, i < 4 → 0 ≤ at_ ds (16 + (i : Int)) ∧ at_ ds (16 + (i : Int)) < 36 := fun i hi => hb.at (k := 16 + (i : Int)) (s := 36) (by omega) (by
    rw [show (16 + (i : Int)).toNat = 16 + i by omega]
    match i, hi with
    | 0, _ => rfl
    | 1, _ => rfl
    | 2, _ => rfl
    | 3, _ => rfl)
  have hlt : ∀ p : Int, 0 ≤ p → p < 36 → ∃ c, ixD (dS (codes "abcdefghijklmnopqrstuvwxyz0123456789")) (.int p) = some (dS [c]) ∧ nch c = true := fun p h0 h1 =>
    ⟨ltrs.getD p.toNat 0, ixS (by decide) h0 (by show p < ((36 : Nat) : Int); omega), ltrs_ok p.toNat (by omega)⟩
  walk_at "zz"
  obtain ⟨l, el, hl, hlP⟩ := join_rng (it := dRng1 (aCons (dC (.int 12)) aNil)) (te := d2 ixD (dVar 2) (d2 ixD (dVar 1) (dVar 5))) (g := [some (.v (.int c)), some (.v (.lst (iL ds))), some (.v (dS (codes "abcdefghijklmnopqrstuvwxyz0123456789"))), none, none, none, none]) (n := 12) (m := 5) (by omega) (fun c => nch c = true) rfl rfl fun i hi => by
    obtain ⟨k, e, h1⟩ := hlt (at_ ds (0 + (i : Int))) (b0 i hi).1 (b0 i hi).2
    refine ⟨_, k, dName_ok rfl, ?_, h1⟩
    walk_at "zz"
    exact e
  rw [el]
  walk_at "zz"
  rw [show SX.S (codes "") = SX.S [] from rfl, join_signs (by omega)]
  walk_at "zz"
  refine rng_then (C := fun o => ∃ W : Ws, outW o = some (Wd.o (D.lst (W.map dS))) ∧ W.length = 4 ∧ ∀ w ∈ W, isName w = true) (fun i g => ∃ (W : Ws) (k5 k6 : Option Wd), g = [some (.v (.int c)), some (.v (.lst (iL ds))), some (.v (dS (codes "abcdefghijklmnopqrstuvwxyz0123456789"))), some (.v (dS l)), some (.o (.lst (W.map dS))), k5, k6] ∧ W.length = i ∧ ∀ w ∈ W, isName w = true) ?_ ?_ ?_ ?_
  · exact ⟨[], _, _, rfl, rfl, fun w m => by cases m⟩
  · rintro i g ⟨W, k5, k6, rfl, _⟩
    rfl
  · rintro i g hi ⟨W, k5, k6, rfl, hW, hn⟩
    obtain ⟨p0, p1⟩ := b1 i hi
    obtain ⟨q0, q1⟩ := b2 i hi
    obtain ⟨k, e, h1⟩ := hlt _ q0 q1
    show StepTo (sSeq _ _ [some (.v (.int c)), some (.v (.lst (iL ds))), some (.v (dS (codes "abcdefghijklmnopqrstuvwxyz0123456789"))), some (.v (dS l)), some (.o (.lst (W.map dS))), some (.v (.int (i : Int))), k6]) _
    walk_at "zz"
    rw [sl_to (by omega) p0, e]
    have h2 : (l.take (at_ ds (12 + (i : Int))).toNat).length + [k].length ≤ 100000 := by
      rw [List.length_take, List.length_singleton]
      omega
    walk_at "zz"
    rw [add_S h2]
    walk_at "zz"
    have hlen : W.length + 1 ≤ 100000 := by omega
    refine step_nx ⟨W ++ [l.take (at_ ds (12 + (i : Int))).toNat ++ [k]], some (.v (.int (i : Int))), some (.v (.int (at_ ds (12 + (i : Int))))), ?_, by simp [hW], fun w m => ?_⟩
    · rw [List.map_append]
      rfl
    · rcases List.mem_append.mp m with m | m
      · exact hn w m
      · rw [List.mem_singleton.mp m]
        unfold isName
        rw [Bool.and_eq_true, Bool.and_eq_true, decide_eq_true_eq, decide_eq_true_eq, List.length_append, List.length_take, List.length_singleton]
        refine ⟨⟨by omega, by omega⟩, List.all_eq_true.mpr fun x m => ?_⟩
        rcases List.mem_append.mp m with m | m
        · exact hlP x (List.mem_of_mem_take m)
        · rw [List.mem_singleton.mp m]; exact h1
  · rintro g ⟨W, k5, k6, rfl, hW, hn⟩
    exact ⟨W, rfl, hW, hn⟩
end Rk
end

section
set_option Elab.async false
set_option linter.all false
set_option maxRecDepth 100000
set_option maxHeartbeats 4000000
/-! Loops that may return. -/
namespace Rk
open L2 Zk Zc Zj
open PySem hiding wordsOf
theorem loop_find {α : Type} {f : DGF} {s : SF} (enc : α → D) (J : Gm → Prop) (W : α → Option Wd) : ∀ (xs : List α) (g : Gm), J g →
    (∀ a ∈ xs, ∀ g, J g → ∃ g1, f (enc a) g = some g1 ∧ ((W a = none ∧ ∃ g2, s g1 = some (.nx g2) ∧ J g2) ∨ ∃ w, W a = some w ∧ s g1 = some (.rt w))) →
    (xs.findSome? W = none ∧ ∃ g', loopD f s (xs.map enc) g = some (.nx g') ∧ J g') ∨ ∃ w, xs.findSome? W = some w ∧ loopD f s (xs.map enc) g = some (.rt w)
  | [], g, hJ, _ => .inl ⟨rfl, g, rfl, hJ⟩
  | a :: xs, g, hJ, h => by
    obtain ⟨g1, e1, z⟩ := h a List.mem_cons_self g hJ
    have step : loopD f s ((a :: xs).map enc) g = (s g1).bind fun o => match o with
        | .nx g2 => loopD f s (xs.map enc) g2
        | .ct g2 => loopD f s (xs.map enc) g2
        | .bk g2 => some (.nx g2)
        | .rt w => some (.rt w) := by
      rw [List.map_cons]
      conv => lhs; unfold loopD
      rw [e1]
      rfl
    rcases z with ⟨w0, g2, e2, h2⟩ | ⟨w, w1, e2⟩
    · rw [step, e2, List.findSome?_cons, w0]
      exact loop_find enc J W xs g2 h2 fun b hb => h b (List.mem_cons_of_mem _ hb)
    · right
      rw [step, e2, List.findSome?_cons, w1]
      exact ⟨w, rfl, rfl⟩
def FS (o : Option Out) (v : Option Wd) (J : Gm → Prop) : Prop := (v = none ∧ ∃ g2, o = some (.nx g2) ∧ J g2) ∨ ∃ w, v = some w ∧ o = some (.rt w)
theorem fs_nx {g : Gm} {v : Option Wd} {J : Gm → Prop} (h : v = none) (hJ : J g) : FS (some (.nx g)) v J := .inl ⟨h, g, rfl, hJ⟩
theorem fs_rt {w : Wd} {v : Option Wd} {J : Gm → Prop} (h : v = some w) : FS (some (.rt w)) v J := .inr ⟨w, h, rfl⟩
theorem find_then {α : Type} {f : DGF} {s q : SF} {C : Option Out → Prop} (enc : α → D) (J : Gm → Prop) (W : α → Option Wd) (xs : List α) {g : Gm} (hJ : J g)
    (h : ∀ a ∈ xs, ∀ g, J g → ∃ g1, f (enc a) g = some g1 ∧ FS (s g1) (W a) J) (k1 : ∀ g', xs.findSome? W = none → J g' → C (q g')) (k2 : ∀ w, xs.findSome? W = some w → C (some (.rt w))) : C (apSeq (loopD f s (xs.map enc) g) q) := by
  rcases loop_find enc J W xs g hJ h with ⟨e, g', e2, h2⟩ | ⟨w, e, e2⟩
  · rw [e2]
    exact k1 g' e h2
  · rw [e2]
    exact k2 w e
/-! ### lists of texts that are equal -/
end Rk
end

section
set_option Elab.async false
set_option linter.all false
set_option maxRecDepth 100000
set_option maxHeartbeats 4000000
/-! Texts of records that are spoilt: they read as nothing. By words. -/
namespace Rk
open L2 Zk Zc Zj
open PySem hiding wordsOf
def J (ws : Ws) : L := TL.joinL [32] ws
def clean (w : L) : Prop := 32 ∉ w ∧ 59 ∉ w
/-! ### pieces that don't read -/
theorem notdig_num {x : L} {c : Nat} (hc : c ∈ x) (h : dig c = false) : isNum x = false := by
  unfold isNum
  have : x.all dig = false := List.all_eq_false.mpr ⟨c, hc, by rw [h]; decide⟩
  rw [this, Bool.and_false, Bool.false_and]
/-- a sign that is no digit and no comma -/
theorem nums_sign {x : L} {c : Nat} (hc : c ∈ x) (h : dig c = false) (h2 : c ≠ 44) : rdNums x = none := by
  unfold rdNums
  refine if_neg fun z => ?_
  have key : ∀ (n : Nat) (x : L), x.length ≤ n → c ∈ x → ∃ w ∈ sp 44 x, c ∈ w := by
    intro n
    induction n with
    | zero => intro x hn hc; cases x with | nil => cases hc | cons a x => simp at hn
    | succ n ih =>
      intro x hn hc
      rcases cut_or 44 x with ⟨p, q, h1, h3, _⟩ | ⟨h1, _⟩
      · subst h1
        rw [sp_app q h3]
        rcases List.mem_append.mp hc with m | m
        · exact ⟨p, List.mem_cons_self, m⟩
        · rcases List.mem_cons.mp m with m | m
          · exact absurd m h2
          · obtain ⟨w, hw, hc⟩ := ih q (by simp at hn; omega) m
            exact ⟨w, List.mem_cons_of_mem _ hw, hc⟩
      · rw [sp_free h1]
        exact ⟨x, by simp, hc⟩
  obtain ⟨w, hw, hcw⟩ := key x.length x (Nat.le_refl _) hc
  have := List.all_eq_true.mp z w hw
  rw [notdig_num hcw h] at this
  cases this
/-! ### bodies that don't read -/
def kws : Ws := [codes "picture", codes "put", codes "erase", codes "deal", codes "cap"]
/-! ### a record's words: the keyword, what stands ahead of the stroke, the stroke, the wardens -/
def kwOf : Rec → L
  | .pic _ _ _ => codes "picture"
  | .put _ _ _ => codes "put"
  | .era _ => codes "erase"
  | .deal _ => codes "deal"
  | .cap _ _ _ => codes "cap"
def esOf : Rec → List (Int × Int × Int)
  | .pic _ _ es => es
  | .put _ _ es => es
  | .era _ => []
  | .deal es => es
  | .cap _ _ es => es
def isEra : Rec → Bool
  | .era _ => true
  | _ => false
end Rk
end

section
set_option Elab.async false
set_option linter.all false
set_option maxRecDepth 100000
set_option maxHeartbeats 4000000
/-! Command lines: two readings that agree, and what is read is what was written. -/
namespace Rk
open L2 Zk Zc Zj Zd
open PySem hiding wordsOf
theorem num_val {w : L} (h : isNum w = true) : num (val w) = w := by
  unfold isNum at h
  rw [Bool.and_eq_true, Bool.and_eq_true] at h
  obtain ⟨⟨h1, h2⟩, h3⟩ := h
  have hd : NumText.AllDigits w := fun c m => by
    have := List.all_eq_true.mp h2 c m
    unfold dig at this
    rw [Bool.and_eq_true, decide_eq_true_eq, decide_eq_true_eq] at this
    exact this
  obtain ⟨c, r, rfl⟩ : ∃ c r, w = c :: r := by
    cases w with
    | nil => cases h1
    | cons c r => exact ⟨c, r, rfl⟩
  have h4 : r.length = 0 ∨ ∃ c' r', c :: r = c' :: r' ∧ 49 ≤ c' := by
    rw [Bool.or_eq_true, Bool.not_eq_true', decide_eq_true_eq, decide_eq_false_iff_not] at h3
    rcases h3 with z | z
    · left; cases z; rfl
    · right
      refine ⟨c, r, rfl, ?_⟩
      have := (hd c List.mem_cons_self).1
      have : c ≠ 48 := fun q => z (by rw [q]; rfl)
      omega
  have e := NumText.toDigits_digitsVal r.length (c :: r) rfl hd h4
  unfold num val
  rw [Int.toNat_natCast]
  show (Nat.toDigits 10 (NumText.digitsVal (c :: r))).map Char.toNat = c :: r
  rw [e, List.map_map]
  have : ∀ cs : L, NumText.AllDigits cs → cs.map (Char.toNat ∘ Char.ofNat) = cs := fun cs hc => by
    induction cs with
    | nil => rfl
    | cons a t ih =>
      rw [List.map_cons, ih fun x m => hc x (List.mem_cons_of_mem _ m)]
      have ha := hc a List.mem_cons_self
      have : ∀ k ≤ 57, 48 ≤ k → (Char.ofNat k).toNat = k := by decide
      rw [show (Char.toNat ∘ Char.ofNat) a = (Char.ofNat a).toNat from rfl, this a ha.2 ha.1]
  exact this _ hd
inductive Cmd
  | put (n : L) (at_ : List Int) (t : L)
  | named (w n : L)
  | nums (w : L) (ns : List Int)
  | alone (w : L)
def alones : Ws := [codes "names", codes "sends", codes "mend", codes "pack"]
def nameds : Ws := [codes "read", codes "erase"]
def twos : Ws := [codes "send", codes "add", codes "drop", codes "cap"]
def cntOf (w : L) : Option Nat := if w ∈ twos then some 2 else if w = codes "lose" then some 1 else none
/-! ### the program's reading -/
def mkPut (n : L) (t : Option L) (a : Option (List Int)) : Option Cmd := match t, a with
  | some t, some a => if isName n = true then some (.put n a t) else none
  | _, _ => none
def seatsOf : Option L → Option (List Int)
  | some s => rdNums s
  | none => some []
def rdPutL (rest : L) : Option Cmd := mkPut (cut 64 (cut 58 rest).1).1 (cut 58 rest).2 (seatsOf (cut 64 (cut 58 rest).1).2)
def rdNumsL (w : L) (ps : Ws) : Option Cmd := if cntOf w = some ps.length ∧ ps.all isNum = true then some (.nums w (ps.map val)) else none
def rdCmd (line : L) : Option Cmd :=
  if 10 ∈ line then none
  else if (cut 32 line).1 = codes "put" then rdPutL ((cut 32 line).2.getD [])
  else if line ∈ alones then some (.alone line)
  else if (cut 32 line).1 ∈ nameds then (if isName ((cut 32 line).2.getD []) = true then some (.named (cut 32 line).1 ((cut 32 line).2.getD [])) else none)
  else rdNumsL (cut 32 line).1 (sp 32 ((cut 32 line).2.getD []))
/-! ### the law's reading -/
def lwPut2 (n : L) (ws : Ws) (t : L) : Option Cmd := match ws with
  | [] => some (.put n [] t)
  | [s] => (rdNums s).map fun a => .put n a t
  | _ => none
def lwPutH (hd : Ws) (t : L) : Option Cmd := match hd with
  | n :: ws => if isName n = true ∧ ws.length ≤ 1 then lwPut2 n ws t else none
  | [] => none
def lwPut (rest : L) : Option Cmd := match (cut 58 rest).2 with
  | some t => lwPutH (sp 64 (cut 58 rest).1) t
  | none => none
def lwWords : Ws → Option Cmd
  | [] => none
  | w :: ps => if w ∈ alones ∧ ps = [] then some (.alone w)
    else if w ∈ nameds ∧ ps.length = 1 ∧ isName (ps.headD []) = true then some (.named w (ps.headD []))
    else if ps.all isNum = true then (if (w ∈ twos ∧ ps.length = 2) ∨ (w = codes "lose" ∧ ps.length = 1) then some (.nums w (ps.map val)) else none)
    else none
def lwCmd (line : L) : Option Cmd :=
  if 10 ∈ line then none
  else if line.take 4 = codes "put " then lwPut (line.drop 4)
  else lwWords (sp 32 line)
/-! ### they agree -/
theorem sp_two {c : Nat} {a : L} (h : c ∈ a) : 2 ≤ (sp c a).length := by
  rcases cut_or c a with ⟨p, q, rfl, h2, _⟩ | ⟨h2, _⟩
  · rw [sp_app q h2, List.length_cons]
    have := List.length_pos_iff.mpr (sp_ne (c := c) q)
    omega
  · exact absurd h h2
theorem put_agree (rest : L) : rdPutL rest = lwPut rest := by
  unfold rdPutL lwPut
  generalize (cut 58 rest).1 = h
  cases (cut 58 rest).2 with
  | none => rfl
  | some t =>
    show mkPut (cut 64 h).1 (some t) (seatsOf (cut 64 h).2) = lwPutH (sp 64 h) t
    rcases cut_or 64 h with ⟨n, s, rfl, h2, h3⟩ | ⟨h2, h3⟩
    · rw [h3, sp_app s h2]
      show mkPut n (some t) (rdNums s) = if isName n = true ∧ (sp 64 s).length ≤ 1 then lwPut2 n (sp 64 s) t else none
      by_cases hs : 64 ∈ s
      · rw [nums_sign hs rfl (by decide), if_neg fun z => by have := sp_two hs; omega]
        rfl
      · rw [sp_free hs]
        by_cases hn : isName n = true
        · rw [if_pos ⟨hn, by simp⟩]
          cases q : rdNums s with
          | none => show none = (rdNums s).map _; rw [q]; rfl
          | some a => show (if isName n = true then _ else none) = (rdNums s).map _; rw [q, if_pos hn]; rfl
        · rw [if_neg fun z => hn z.1]
          cases q : rdNums s with
          | none => rfl
          | some a => exact if_neg hn
    · rw [h3, sp_free h2]
      show (if isName h = true then some (Cmd.put h [] t) else none) = if isName h = true ∧ ([] : Ws).length ≤ 1 then some (Cmd.put h [] t) else none
      by_cases hn : isName h = true
      · rw [if_pos hn, if_pos ⟨hn, by simp⟩]
      · rw [if_neg hn, if_neg fun z => hn z.1]
theorem cnt_iff (w : L) (n : Nat) : cntOf w = some n ↔ (w ∈ twos ∧ n = 2) ∨ (w = codes "lose" ∧ n = 1) := by
  unfold cntOf
  by_cases h : w ∈ twos
  · rw [if_pos h]
    constructor
    · intro z; cases z; exact .inl ⟨h, rfl⟩
    · rintro (⟨_, rfl⟩ | ⟨z, _⟩)
      · rfl
      · rw [z] at h; exact absurd h (by decide)
  · rw [if_neg h]
    by_cases h2 : w = codes "lose"
    · rw [if_pos h2]
      constructor
      · intro z; cases z; exact .inr ⟨h2, rfl⟩
      · rintro (⟨z, _⟩ | ⟨_, rfl⟩)
        · exact absurd z h
        · rfl
    · rw [if_neg h2]
      constructor
      · intro z; cases z
      · rintro (⟨z, _⟩ | ⟨z, _⟩)
        · exact absurd z h
        · exact absurd z h2
theorem nums_agree (w : L) (ps : Ws) : rdNumsL w ps = if ps.all isNum = true then (if (w ∈ twos ∧ ps.length = 2) ∨ (w = codes "lose" ∧ ps.length = 1) then some (.nums w (ps.map val)) else none) else none := by
  unfold rdNumsL
  by_cases h : ps.all isNum = true
  · rw [if_pos h]
    by_cases h2 : (w ∈ twos ∧ ps.length = 2) ∨ (w = codes "lose" ∧ ps.length = 1)
    · rw [if_pos h2, if_pos ⟨(cnt_iff w _).mpr h2, h⟩]
    · rw [if_neg h2, if_neg fun z => h2 ((cnt_iff w _).mp z.1)]
  · rw [if_neg h, if_neg fun z => h z.2]
theorem named_cnt {w : L} (h : w ∈ nameds) (n : Nat) : ¬ ((w ∈ twos ∧ n = 2) ∨ (w = codes "lose" ∧ n = 1)) := fun z => by
  have : ∀ w ∈ nameds, w ∉ twos ∧ w ≠ codes "lose" := by decide
  have := this w h
  rcases z with ⟨z, _⟩ | ⟨z, _⟩
  · exact this.1 z
  · exact this.2 z
theorem agree (line : L) : rdCmd line = lwCmd line := by
  unfold rdCmd lwCmd
  by_cases h10 : 10 ∈ line
  · rw [if_pos h10, if_pos h10]
  rw [if_neg h10, if_neg h10]
  have hal : ∀ w ∈ alones, 32 ∉ w ∧ w ≠ codes "put" := by decide
  rcases cut_or 32 line with ⟨w, rest, rfl, h2, h3⟩ | ⟨h2, h3⟩
  · rw [h3, sp_app rest h2]
    have hps : sp 32 rest ≠ [] := sp_ne rest
    show (if w = codes "put" then rdPutL rest else if w ++ 32 :: rest ∈ alones then some (.alone (w ++ 32 :: rest)) else if w ∈ nameds then (if isName rest = true then some (.named w rest) else none) else rdNumsL w (sp 32 rest)) = _
    by_cases hw : w = codes "put"
    · subst hw
      rw [if_pos rfl, if_pos (by rfl), show (codes "put" ++ 32 :: rest).drop 4 = rest from rfl]
      exact put_agree rest
    · have ht : ¬ (w ++ 32 :: rest).take 4 = codes "put " := fun z => by
        have e : w ++ 32 :: rest = codes "put" ++ 32 :: (w ++ 32 :: rest).drop 4 := by
          have := List.take_append_drop 4 (w ++ 32 :: rest)
          rw [z] at this
          exact this.symm
        have e2 := cut_app (c := 32) ((w ++ 32 :: rest).drop 4) (p := codes "put") (by decide)
        rw [← e, h3] at e2
        exact hw (congrArg Prod.fst e2)
      rw [if_neg hw, if_neg ht, if_neg fun z => (hal _ z).1 (by simp)]
      show _ = if w ∈ alones ∧ sp 32 rest = [] then some (Cmd.alone w) else if w ∈ nameds ∧ (sp 32 rest).length = 1 ∧ isName ((sp 32 rest).headD []) = true then some (Cmd.named w ((sp 32 rest).headD [])) else if (sp 32 rest).all isNum = true then (if (w ∈ twos ∧ (sp 32 rest).length = 2) ∨ (w = codes "lose" ∧ (sp 32 rest).length = 1) then some (Cmd.nums w ((sp 32 rest).map val)) else none) else none
      rw [if_neg (fun z : w ∈ alones ∧ sp 32 rest = [] => hps z.2)]
      by_cases hn : w ∈ nameds
      · rw [if_pos hn]
        by_cases hr : isName rest = true
        · have h32 : 32 ∉ rest := fun z => by
            unfold isName at hr
            rw [Bool.and_eq_true] at hr
            exact absurd (List.all_eq_true.mp hr.2 32 z) (by decide)
          rw [if_pos hr, sp_free h32, if_pos ⟨hn, rfl, hr⟩]
          rfl
        · rw [if_neg hr]
          have hx : ¬ (w ∈ nameds ∧ (sp 32 rest).length = 1 ∧ isName ((sp 32 rest).headD []) = true) := fun z => by
            by_cases h32 : 32 ∈ rest
            · have := sp_two h32; omega
            · rw [sp_free h32] at z; exact hr z.2.2
          rw [if_neg hx]
          split
          · rw [if_neg (named_cnt hn _)]
          · rfl
      · rw [if_neg hn, if_neg (fun z => hn z.1), nums_agree]
  · rw [h3, sp_free h2]
    have ht : ¬ line.take 4 = codes "put " := fun z => h2 (List.mem_of_mem_take (by rw [z]; decide))
    rw [if_neg ht]
    show (if line = codes "put" then rdPutL [] else if line ∈ alones then some (.alone line) else if line ∈ nameds then (if isName [] = true then some (.named line []) else none) else rdNumsL line (sp 32 [])) = if line ∈ alones ∧ ([] : Ws) = [] then some (.alone line) else if line ∈ nameds ∧ ([] : Ws).length = 1 ∧ isName [] = true then some (.named line []) else if ([] : Ws).all isNum = true then (if (line ∈ twos ∧ ([] : Ws).length = 2) ∨ (line = codes "lose" ∧ ([] : Ws).length = 1) then some (.nums line []) else none) else none
    have hlast : (if line ∈ nameds ∧ ([] : Ws).length = 1 ∧ isName [] = true then some (Cmd.named line []) else if ([] : Ws).all isNum = true then (if (line ∈ twos ∧ ([] : Ws).length = 2) ∨ (line = codes "lose" ∧ ([] : Ws).length = 1) then some (.nums line []) else none) else none) = none := by
      rw [if_neg (by simp), if_pos (show ([] : Ws).all isNum = true from rfl), if_neg (by simp)]
    rw [hlast]
    by_cases hw : line = codes "put"
    · subst hw
      rw [if_pos rfl, if_neg (by decide)]
      rfl
    · rw [if_neg hw]
      by_cases ha : line ∈ alones
      · rw [if_pos ha, if_pos ⟨ha, rfl⟩]
      · rw [if_neg ha, if_neg (fun z : line ∈ alones ∧ ([] : Ws) = [] => ha z.1)]
        by_cases hn : line ∈ nameds
        · rw [if_pos hn]; rfl
        · rw [if_neg hn, nums_agree]; rfl
/-! ### what is written -/
theorem J_cons2 (w : L) {r : Ws} (h : r ≠ []) : J (w :: r) = w ++ 32 :: J r := by
  cases r with
  | nil => exact absurd rfl h
  | cons v r => rfl
def tailN : List Int → L
  | [] => []
  | a :: r => 64 :: joinN (a :: r)
def lineOf : Cmd → L
  | .put n a t => codes "put " ++ n ++ tailN a ++ 58 :: t
  | .named w n => w ++ 32 :: n
  | .nums w ns => J (w :: ns.map num)
  | .alone w => w
structure NumW (x : Int) : Prop where
  h0 : 0 ≤ x
  h1 : x < 10 ^ 500
theorem rdNums_joinW {ns : List Int} (h : ∀ x ∈ ns, NumW x) (h0 : ns ≠ []) : rdNums (joinN ns) = some ns := by
  unfold rdNums joinN
  rw [sp_join (by simpa using h0) (fun p m => by obtain ⟨x, _, rfl⟩ := List.mem_map.mp m; exact num_free (Or.inl (by decide)))]
  rw [if_pos (List.all_eq_true.mpr fun p m => by obtain ⟨x, hx, rfl⟩ := List.mem_map.mp m; exact isNum_num (h x hx).h0), List.map_map]
  congr 1
  conv => rhs; rw [← List.map_id ns]
  exact List.map_congr_left fun x m => val_num (h x m).h0
structure PutOk (n : L) (a : List Int) (t : L) : Prop where
  nm : isName n = true
  ns : ∀ x ∈ a, NumW x
  nl : 10 ∉ t
def CmdOk : Cmd → Prop
  | .put n a t => PutOk n a t
  | .named w n => w ∈ nameds ∧ isName n = true
  | .nums w ns => cntOf w = some ns.length ∧ ∀ x ∈ ns, NumW x
  | .alone w => w ∈ alones
/-- what is read was written so -/
theorem J_sp (c : Nat) : ∀ (n : Nat) (a : L), a.length ≤ n → TL.joinL [c] (sp c a) = a
  | n, a, hn => by
    rcases cut_or c a with ⟨p, q, h1, h2, _⟩ | ⟨h2, _⟩
    · subst h1
      cases n with
      | zero => simp at hn
      | succ n =>
        have ih := J_sp c n q (by simp at hn; omega)
        rw [sp_app q h2]
        cases hs : sp c q with
        | nil => exact absurd hs (sp_ne q)
        | cons w r =>
          rw [hs] at ih
          show p ++ ([c] ++ TL.joinL [c] (w :: r)) = p ++ c :: q
          rw [ih]
          rfl
    · rw [sp_free h2]; rfl
theorem map_num_val {ps : Ws} (h : ps.all isNum = true) : (ps.map val).map num = ps := by
  rw [List.map_map]
  conv => rhs; rw [← List.map_id ps]
  exact List.map_congr_left fun w m => num_val (List.all_eq_true.mp h w m)
theorem rdNums_back {a : L} {ns : List Int} (h : rdNums a = some ns) : joinN ns = a ∧ ns ≠ [] := by
  unfold rdNums at h
  split at h
  · rename_i q
    cases h
    refine ⟨?_, fun z => sp_ne (c := 44) a (List.map_eq_nil_iff.mp z)⟩
    unfold joinN
    rw [map_num_val q]
    exact J_sp 44 _ a (Nat.le_refl _)
  · cases h
theorem back {line : L} {c : Cmd} (h : rdCmd line = some c) : lineOf c = line := by
  unfold rdCmd at h
  split at h
  · cases h
  rcases cut_or 32 line with ⟨w, rest, rfl, h2, h3⟩ | ⟨h2, h3⟩
  · rw [h3] at h
    have h : (if w = codes "put" then rdPutL rest else if w ++ 32 :: rest ∈ alones then some (Cmd.alone (w ++ 32 :: rest)) else if w ∈ nameds then (if isName rest = true then some (Cmd.named w rest) else none) else rdNumsL w (sp 32 rest)) = some c := h
    by_cases hw : w = codes "put"
    · rw [if_pos hw] at h
      have h9 : rdPutL rest = some c := h
      rw [hw]
      unfold rdPutL at h9
      have h := h9
      clear h9
      rcases cut_or 58 rest with ⟨hd, t, rfl, h4, h5⟩ | ⟨h4, h5⟩
      · rw [h5] at h
        have h : mkPut (cut 64 hd).1 (some t) (seatsOf (cut 64 hd).2) = some c := h
        rcases cut_or 64 hd with ⟨n, s, rfl, h6, h7⟩ | ⟨h6, h7⟩
        · rw [h7] at h
          have h : mkPut n (some t) (rdNums s) = some c := h
          cases q : rdNums s with
          | none => rw [q] at h; cases h
          | some ns =>
            rw [q] at h
            have h : (if isName n = true then some (Cmd.put n ns t) else none) = some c := h
            split at h
            · cases h
              obtain ⟨q1, q2⟩ := rdNums_back q
              cases ns with
              | nil => exact absurd rfl q2
              | cons x r =>
                show codes "put " ++ n ++ (64 :: joinN (x :: r)) ++ 58 :: t = codes "put" ++ 32 :: ((n ++ 64 :: s) ++ 58 :: t)
                rw [q1]
                simp [codes]
            · cases h
        · rw [h7] at h
          have h : (if isName hd = true then some (Cmd.put hd [] t) else none) = some c := h
          split at h
          · cases h
            show codes "put " ++ hd ++ [] ++ 58 :: t = codes "put" ++ 32 :: (hd ++ 58 :: t)
            simp [codes]
          · cases h
      · rw [h5] at h
        have h : mkPut (cut 64 rest).1 none (seatsOf (cut 64 rest).2) = some c := h
        cases hso : seatsOf (cut 64 rest).2 <;> rw [hso] at h <;> cases h
    · rw [if_neg hw] at h
      split at h
      · cases h; rfl
      · split at h
        · split at h
          · cases h; rfl
          · cases h
        · unfold rdNumsL at h
          split at h
          · rename_i q
            cases h
            show J (w :: ((sp 32 rest).map val).map num) = _
            rw [map_num_val q.2, J_cons2 w (sp_ne rest)]
            congr 1
            congr 1
            exact J_sp 32 _ rest (Nat.le_refl _)
          · cases h
  · rw [h3] at h
    have h : (if line = codes "put" then rdPutL [] else if line ∈ alones then some (Cmd.alone line) else if line ∈ nameds then (if isName [] = true then some (Cmd.named line []) else none) else rdNumsL line (sp 32 [])) = some c := h
    split at h
    · cases h
    · split at h
      · cases h; rfl
      · split at h
        · cases h
        · rw [nums_agree] at h; cases h
theorem rd_sp {w rest : L} (h10 : 10 ∉ w ++ 32 :: rest) (h32 : 32 ∉ w) : rdCmd (w ++ 32 :: rest) = if w = codes "put" then rdPutL rest else if w ++ 32 :: rest ∈ alones then some (.alone (w ++ 32 :: rest)) else if w ∈ nameds then (if isName rest = true then some (.named w rest) else none) else rdNumsL w (sp 32 rest) := by
  unfold rdCmd
  rw [if_neg h10, cut_app rest h32]
  rfl
theorem nfree {n : L} (h : isName n = true) {c : Nat} (hc : nch c = false) : c ∉ n := fun z => by
  unfold isName at h
  rw [Bool.and_eq_true] at h
  have := List.all_eq_true.mp h.2 c z
  rw [hc] at this
  cases this
theorem jfree (ns : List Int) {c : Nat} (h : dig c = false) (h2 : c ≠ 44) : c ∉ joinN ns := fun z => by
  rcases joinL_mem z with z | ⟨p, hp, z⟩
  · exact h2 (List.mem_singleton.mp z)
  · obtain ⟨x, _, rfl⟩ := List.mem_map.mp hp
    have := List.all_eq_true.mp (num_dig x) c z
    rw [h] at this
    cases this
theorem tfree (a : List Int) {c : Nat} (h : dig c = false) (h2 : c ≠ 44) (h3 : c ≠ 64) : c ∉ tailN a := fun z => by
  cases a with
  | nil => cases z
  | cons x r =>
    rcases List.mem_cons.mp z with z | z
    · exact h3 z
    · exact jfree _ h h2 z
theorem there {c : Cmd} (h : CmdOk c) : rdCmd (lineOf c) = some c := by
  cases c with
  | put n a t =>
    obtain ⟨h1, h2, h3⟩ := h
    have e : lineOf (.put n a t) = codes "put" ++ 32 :: ((n ++ tailN a) ++ 58 :: t) := by
      show codes "put " ++ n ++ tailN a ++ 58 :: t = _
      simp [codes]
    have h10 : 10 ∉ codes "put" ++ 32 :: ((n ++ tailN a) ++ 58 :: t) := by
      simp only [List.mem_append, List.mem_cons, not_or]
      exact ⟨by decide, by decide, ⟨nfree h1 rfl, tfree a rfl (by decide) (by decide)⟩, by decide, h3⟩
    have h58 : 58 ∉ n ++ tailN a := by
      simp only [List.mem_append, not_or]
      exact ⟨nfree h1 rfl, tfree a rfl (by decide) (by decide)⟩
    rw [e, rd_sp h10 (by decide), if_pos rfl]
    unfold rdPutL
    rw [cut_app t h58]
    show mkPut (cut 64 (n ++ tailN a)).1 (some t) (seatsOf (cut 64 (n ++ tailN a)).2) = _
    cases a with
    | nil =>
      show mkPut (cut 64 (n ++ [])).1 (some t) (seatsOf (cut 64 (n ++ [])).2) = _
      rw [List.append_nil, cut_free (nfree h1 rfl)]
      exact if_pos h1
    | cons x r =>
      show mkPut (cut 64 (n ++ 64 :: joinN (x :: r))).1 (some t) (seatsOf (cut 64 (n ++ 64 :: joinN (x :: r))).2) = _
      rw [cut_app _ (nfree h1 rfl)]
      show mkPut n (some t) (rdNums (joinN (x :: r))) = _
      rw [rdNums_joinW h2 (by simp)]
      exact if_pos h1
  | named w n =>
    obtain ⟨h1, h2⟩ := h
    have hw : ∀ w ∈ nameds, 32 ∉ w ∧ 10 ∉ w ∧ w ≠ codes "put" := by decide
    obtain ⟨w1, w2, w3⟩ := hw w h1
    have hal : ∀ w ∈ alones, 32 ∉ w := by decide
    show rdCmd (w ++ 32 :: n) = _
    rw [rd_sp (by simp only [List.mem_append, List.mem_cons, not_or]; exact ⟨w2, by decide, nfree h2 rfl⟩) w1, if_neg w3, if_neg (fun z => hal _ z (by simp)), if_pos h1, if_pos h2]
  | nums w ns =>
    obtain ⟨h1, h2⟩ := h
    have hns : ns ≠ [] := fun z => by
      rw [z] at h1
      have := (cnt_iff w 0).mp h1
      simp at this
    have hw : w ∈ codes "lose" :: twos := by
      rcases (cnt_iff w _).mp h1 with ⟨z, _⟩ | ⟨z, _⟩
      · exact List.mem_cons_of_mem _ z
      · rw [z]; exact List.mem_cons_self
    have hw2 : ∀ w ∈ codes "lose" :: twos, 32 ∉ w ∧ 10 ∉ w ∧ w ≠ codes "put" ∧ w ∉ nameds := by decide
    obtain ⟨w1, w2, w3, w4⟩ := hw2 w hw
    have hal : ∀ w ∈ alones, 32 ∉ w := by decide
    have hm : ns.map num ≠ [] := fun z => hns (List.map_eq_nil_iff.mp z)
    have hj : 10 ∉ J (ns.map num) := fun z => by
      rcases joinL_mem z with z | ⟨p, hp, z⟩
      · exact absurd z (by decide)
      · obtain ⟨x, _, rfl⟩ := List.mem_map.mp hp
        exact num_free (.inl (by decide)) z
    show rdCmd (J (w :: ns.map num)) = _
    rw [J_cons2 w hm, rd_sp (by simp only [List.mem_append, List.mem_cons, not_or]; exact ⟨w2, by decide, hj⟩) w1, if_neg w3, if_neg (fun z => hal _ z (by simp)), if_neg w4]
    unfold J
    rw [sp_join hm fun p m => by obtain ⟨x, _, rfl⟩ := List.mem_map.mp m; exact num_free (.inl (by decide))]
    unfold rdNumsL
    rw [List.length_map, if_pos ⟨h1, List.all_eq_true.mpr fun p m => by obtain ⟨x, hx, rfl⟩ := List.mem_map.mp m; exact isNum_num (h2 x hx).h0⟩, List.map_map]
    congr 2
    conv => rhs; rw [← List.map_id ns]
    exact List.map_congr_left fun x m => val_num (h2 x m).h0
  | alone w =>
    have h : w ∈ alones := h
    have hal : ∀ w ∈ alones, rdCmd w = if w ∈ alones then some (.alone w) else none := fun w m => by
      simp only [alones, List.mem_cons, List.not_mem_nil, or_false] at m
      rcases m with rfl | rfl | rfl | rfl <;> rfl
    show rdCmd w = _
    rw [hal w h, if_pos h]
theorem fold_lt : ∀ (cs : L) (acc : Nat), (∀ c ∈ cs, 48 ≤ c ∧ c ≤ 57) → cs.foldl (fun acc c => acc * 10 + (c - 48)) acc < (acc + 1) * 10 ^ cs.length
  | [], acc, _ => by simp
  | c :: cs, acc, h => by
    have h1 := fold_lt cs (acc * 10 + (c - 48)) fun x m => h x (List.mem_cons_of_mem _ m)
    have h2 := h c List.mem_cons_self
    show cs.foldl _ (acc * 10 + (c - 48)) < _
    refine Nat.lt_of_lt_of_le h1 ?_
    rw [List.length_cons, Nat.pow_succ, Nat.mul_comm (10 ^ cs.length) 10, ← Nat.mul_assoc]
    exact Nat.mul_le_mul_right _ (by omega)
theorem val_W {w : L} (h : isNum w = true) (hl : w.length ≤ 500) : NumW (val w) := by
  unfold isNum at h
  rw [Bool.and_eq_true, Bool.and_eq_true] at h
  have hd : ∀ c ∈ w, 48 ≤ c ∧ c ≤ 57 := fun c m => by
    have := List.all_eq_true.mp h.1.2 c m
    unfold dig at this
    rw [Bool.and_eq_true, decide_eq_true_eq, decide_eq_true_eq] at this
    exact this
  have h1 : NumText.digitsVal w < 10 ^ w.length := by
    have := fold_lt w 0 hd
    rw [Nat.zero_add, Nat.one_mul] at this
    exact this
  have h2 : 10 ^ w.length ≤ 10 ^ 500 := Nat.pow_le_pow_right (by decide) hl
  refine ⟨Int.natCast_nonneg _, ?_⟩
  have h3 := Nat.lt_of_lt_of_le h1 h2
  show ((NumText.digitsVal w : Nat) : Int) < 10 ^ 500
  have : ((10 ^ 500 : Nat) : Int) = 10 ^ 500 := by rw [Int.natCast_pow]; rfl
  rw [← this]
  exact Int.ofNat_lt.mpr h3
theorem rdNums_W {a : L} {ns : List Int} (h : rdNums a = some ns) (hl : a.length ≤ 500) : ∀ x ∈ ns, NumW x := by
  unfold rdNums at h
  split at h
  · rename_i q
    cases h
    intro x m
    obtain ⟨w, hw, rfl⟩ := List.mem_map.mp m
    exact val_W (List.all_eq_true.mp q w hw) (sp_le hl w hw)
  · cases h
/-- what is read is a good command -/
theorem rd_ok {line : L} {c : Cmd} (h : rdCmd line = some c) (hl : line.length ≤ 500) : CmdOk c := by
  unfold rdCmd at h
  split at h
  · cases h
  rename_i h10
  rcases cut_or 32 line with ⟨w, rest, rfl, h2, h3⟩ | ⟨h2, h3⟩
  · rw [h3] at h
    rw [List.length_append, List.length_cons] at hl
    have h : (if w = codes "put" then rdPutL rest else if w ++ 32 :: rest ∈ alones then some (Cmd.alone (w ++ 32 :: rest)) else if w ∈ nameds then (if isName rest = true then some (Cmd.named w rest) else none) else rdNumsL w (sp 32 rest)) = some c := h
    by_cases hw : w = codes "put"
    · rw [if_pos hw] at h
      have h9 : rdPutL rest = some c := h
      unfold rdPutL at h9
      have h := h9
      clear h9
      rcases cut_or 58 rest with ⟨hd, t, rfl, h4, h5⟩ | ⟨h4, h5⟩
      · rw [h5] at h
        have h10t : 10 ∉ t := fun z => h10 (by simp [z])
        rw [List.length_append, List.length_cons] at hl
        have h : mkPut (cut 64 hd).1 (some t) (seatsOf (cut 64 hd).2) = some c := h
        rcases cut_or 64 hd with ⟨n, s, rfl, h6, h7⟩ | ⟨h6, h7⟩
        · rw [h7] at h
          rw [List.length_append, List.length_cons] at hl
          have h : mkPut n (some t) (rdNums s) = some c := h
          cases q : rdNums s with
          | none => rw [q] at h; cases h
          | some ns =>
            rw [q] at h
            have h : (if isName n = true then some (Cmd.put n ns t) else none) = some c := h
            split at h
            · rename_i hn
              cases h
              exact ⟨hn, rdNums_W q (by omega), h10t⟩
            · cases h
        · rw [h7] at h
          have h : (if isName hd = true then some (Cmd.put hd [] t) else none) = some c := h
          split at h
          · rename_i hn
            cases h
            exact ⟨hn, (fun x m => by cases m), h10t⟩
          · cases h
      · rw [h5] at h
        have h : mkPut (cut 64 rest).1 none (seatsOf (cut 64 rest).2) = some c := h
        cases hso : seatsOf (cut 64 rest).2 <;> rw [hso] at h <;> cases h
    · rw [if_neg hw] at h
      split at h
      · rename_i ha; cases h; exact ha
      · split at h
        · rename_i hn
          split at h
          · rename_i hr; cases h; exact ⟨hn, hr⟩
          · cases h
        · unfold rdNumsL at h
          split at h
          · rename_i q
            cases h
            refine ⟨by rw [List.length_map]; exact q.1, fun x m => ?_⟩
            obtain ⟨p, hp, rfl⟩ := List.mem_map.mp m
            exact val_W (List.all_eq_true.mp q.2 p hp) (sp_le (by omega) p hp)
          · cases h
  · rw [h3] at h
    have h : (if line = codes "put" then rdPutL [] else if line ∈ alones then some (Cmd.alone line) else if line ∈ nameds then (if isName [] = true then some (Cmd.named line []) else none) else rdNumsL line (sp 32 [])) = some c := h
    split at h
    · cases h
    · split at h
      · rename_i ha; cases h; exact ha
      · split at h
        · cases h
        · rw [nums_agree] at h; cases h
end Rk
end

section
set_option Elab.async false
set_option linter.all false
set_option maxRecDepth 100000
set_option maxHeartbeats 4000000
/-! A record's tokens; a token that is another text, by words. -/
namespace Rk
open L2 Zk Zc Zj
open PySem hiding wordsOf
abbrev Tok := L × L
def tSp : Tok := (codes "space", [32])
def tEnd : Tok := (codes "end", [59])
def tCm : Tok := (codes "comma", [44])
def tEq : Tok := (codes "equals", [61])
def tCo : Tok := (codes "colon", [58])
def tSt : Tok := (codes "stroke", [47])
def tNu (x : Int) : Tok := (codes "number", num x)
def tNa (n : L) : Tok := (codes "name", n)
def tWo (w : L) : Tok := (codes "word", w)
def joinT : List (List Tok) → List Tok
  | [] => []
  | [w] => w
  | w :: v :: r => w ++ tSp :: joinT (v :: r)
def numsT : List Int → List Tok
  | [] => []
  | [x] => [tNu x]
  | x :: y :: r => tNu x :: tCm :: numsT (y :: r)
def nameT (n : L × List Int) : List Tok := tNa n.1 :: tEq :: numsT n.2
def wardT (e : Int × Int × Int) : List Tok := [tNu e.1, tCo, tNu e.2.1, tCm, tNu e.2.2]
def preT : Rec → List (List Tok)
  | .pic caps ns _ => numsT caps :: ns.map nameT
  | .put n is _ => [nameT (n, is)]
  | .era n => [[tNa n]]
  | .deal _ => []
  | .cap s c _ => [[tNu s], [tNu c]]
def TW (r : Rec) : List (List Tok) := if isEra r = true then [tWo (kwOf r)] :: preT r else [tWo (kwOf r)] :: (preT r ++ [tSt] :: (esOf r).map wardT)
def toks (r : Rec) : List Tok := joinT (TW r) ++ [tEnd]
/-! ### lists in a row -/
end Rk
end

section
set_option Elab.async false
set_option linter.all false
set_option maxRecDepth 100000
set_option maxHeartbeats 4000000
/-! A token that is another text: the record's text reads as nothing. -/
namespace Rk
open L2 Zk Zc Zj
open PySem hiding wordsOf
structure BadNu (b : L) : Prop where
  ne : b ≠ []
  n : isNum b = false
  c : clean b
  h44 : 44 ∉ b
  h47 : 47 ∉ b
  h58 : 58 ∉ b
  h61 : 61 ∉ b
structure BadNa (b : L) : Prop where
  n : isName b = false
  c : clean b
  h61 : 61 ∉ b
  h47 : 47 ∉ b
structure BadT (t : Tok) (b : L) : Prop where
  wo : t.1 = codes "word" → clean b ∧ b ≠ t.2
  sp : t.1 = codes "space" → b = [] ∨ b = [32, 32]
  nu : t.1 = codes "number" → BadNu b
  na : t.1 = codes "name" → BadNa b
  cm : t.1 = codes "comma" → b = [46] ∨ b = [59] ∨ b = [58] ∨ b = [32] ∨ b = [44, 44]
  eq : t.1 = codes "equals" → b = [58] ∨ b = [] ∨ b = [61, 61] ∨ b = [32]
  co : t.1 = codes "colon" → b = [61] ∨ b = [44] ∨ b = [] ∨ b = [58, 58] ∨ b = [32]
  st : t.1 = codes "stroke" → b = [] ∨ b = [124] ∨ b = [47, 47] ∨ b = [47, 32, 47]
  en : t.1 = codes "end" → b = [] ∨ b = [59, 59] ∨ b = [44] ∨ b = [59, 32]
/-! ### clean words -/
/-! ### keywords -/
end Rk
end

section
set_option Elab.async false
set_option linter.all false
set_option maxRecDepth 100000
set_option maxHeartbeats 4000000
/-! A token that is another text, at last. -/
namespace Rk
open L2 Zk Zc Zj
open PySem hiding wordsOf
def Sp {α : Type} (rd : L → Option α) (x : L) : Prop := (clean x ∧ x ≠ [47] ∧ rd x = none) ∨ (∃ P Q, x = P ++ 32 :: Q ∧ clean P ∧ clean Q ∧ P ≠ [47] ∧ Q ≠ [47] ∧ (rd P = none ∨ rd Q = none)) ∨ ∃ P Q, x = P ++ 59 :: Q ∧ 59 ∉ P
end Rk
end

section
set_option Elab.async false
set_option linter.all false
set_option maxRecDepth 100000
set_option maxHeartbeats 4000000
/-! Commands: the program's reading and its lines. -/
namespace Y
open L2 Zk Zc Zj Zd Rk
open PySem hiding wordsOf Tok
theorem e_is_name : g_is_name = Rk.g_is_name := rfl
theorem e_is_number : g_is_number = Zd.g_is_number := rfl
theorem e_read_joined : g_read_joined = Rk.g_read_joined := rfl
theorem e_law_draws : g_law_draws = Zc.g_law_draws := rfl
theorem e_law_names : g_law_names = Rk.g_law_names := rfl
def cmdD : Cmd → D
  | .put n a t => .tup [dS (codes "put"), dS n, .tup (iL a), dS t]
  | .named w n => .tup [dS w, dS n]
  | .nums w ns => .tup (dS w :: iL ns)
  | .alone w => .tup [dS w]
local macro_rules | `(tactic| walk_at "zs") => `(tactic| simp only [beq_self_eq_true, Bool.or_false, Bool.false_or, Bool.true_or, Bool.or_true, Bool.and_false, Bool.false_and, Bool.true_and, Bool.and_true, Zc.isi_ii, Zc.isi_ib, Zc.isi_tt, Zc.isi_ll, Zc.rowsT_len, Zc.rowsL_len, Zc.is_integer_call, Zc.ix_p0, Zc.ix_p1, dgTup2_a, dgTup3_a, Bool.not_true, Bool.not_false, mul_lz, List.flatten_cons, List.flatten_nil, Int.reduceToNat, add_ll, pow10_12, pow10_18, pow10_39, pow10_41, pow10_59, pow10_60, mkLst_some, mkTup_some, List.length_cons, List.length_nil, Nat.zero_le, Nat.reduceAdd, Nat.reduceLeDiff, call1, callO1, call2, callO2, call3, callO3, call4, callO4, call5, callO5, call6, callO6, ap1_some, ap2_some, apN_some, apC_some, d1_a, d2_a, dN_a, aNil_a, aCons_a, dC_a, dVar_z, dVar_s, tDt_a, apAnd_t, apAnd_f, apOr_t, apOr_f, dAndT_a, dOrT_a, apNot_some, dNotT_a, apAndV_t, apAndV_f, dAndV_a, apOrV_t, apOrV_f, dOrV_a, apIf_t, apIf_f, dIf_a, apCh_t, apCh_f, apChain_some, dChain_a, apSeq_nx, apSeq_rt, apSeq_ct, apSeq_bk, sSeq_a, apIfS_t, apIfS_f, sIf_a, sNext_a, sCont_a, sBreak_a, apRet_some, sRet_a, apRetO_some, sRetO_a, sRetN_a, getO_z, getO_s, apRetV_some, sRetV_a, ltB_z, ltB_s, okSlot_s, apAsg_some, sAsg_a, dName_ok, apG_some, dgCons_a, dgNil_a, apAsgO_some, sAsgO_a, sApp_a, sSetI_a, apFor_some, sFor_a, dItems_a, dRng1_a, dRng2_a, apEn_some, apEn_tup, dEnum_a, sFrz_a, frzs_nil, frzs_cons, frzI_o, frzI_v, frzI_n, frzI_s, frz1_s, frzAll_nil, frzAll_o, frzAll_v, frzAll_n, peekT_a, apPk_int, apPk_bl, apPk_str, apPk_non, peekF_a, dCall_a, toO_o, dCallO_a, dMake_a, Wd_v, Wd_o, dSl_a, apSl_some, oNone_a, oSome_a, apO_some, add_ii, sub_ii, lt_ii, le_ii, gt_ii, ge_ii, eq_ii, ne_ii, neg_i, not_b, bl_b, tru_b, tru_i, tru_l, tru_t, tru_n, len_l, len_t, len_scr, abs_i, int_i, list_l, list_t, tuple_l, tuple_t, min_ii, max_ii, rev_l, items_l, items_t, iL_len, run_a, outW_rt, outW_nx, List.map_cons, List.map_nil, List.replicate, List.append_nil, List.cons_append, List.nil_append, List.set_cons_zero, List.set_cons_succ, Option.map_some])
local macro_rules | `(tactic| walk_at "zd") => `(tactic| first | ((with_reducible show okSlot _ _ = true); simp only [okSlot_s, ltB_z, ltB_s]; done) | omega | assumption | decide | (simp only [List.length_map, List.length_append, List.length_cons, List.length_nil, List.length_range, List.length_set, List.length_reverse, iL_len, Zc.rowsT_len, Zc.rowsL_len] at *; omega))
local macro_rules | `(tactic| walk_at "zz") => `(tactic| simp (disch := walk_at "zd") only [dgTup2_a, dgTup3_a, Bool.not_true, Bool.not_false, mul_lz, List.flatten_cons, List.flatten_nil, Int.reduceToNat, add_ll, pow10_12, pow10_18, pow10_39, pow10_41, pow10_59, pow10_60, mkLst_some, mkTup_some, List.length_cons, List.length_nil, Nat.zero_le, Nat.reduceAdd, Nat.reduceLeDiff, call1, callO1, call2, callO2, call3, callO3, call4, callO4, call5, callO5, call6, callO6, ap1_some, ap2_some, apN_some, apC_some, d1_a, d2_a, dN_a, aNil_a, aCons_a, dC_a, dVar_z, dVar_s, tDt_a, apAnd_t, apAnd_f, apOr_t, apOr_f, dAndT_a, dOrT_a, apNot_some, dNotT_a, apAndV_t, apAndV_f, dAndV_a, apOrV_t, apOrV_f, dOrV_a, apIf_t, apIf_f, dIf_a, apCh_t, apCh_f, apChain_some, dChain_a, apSeq_nx, apSeq_rt, apSeq_ct, apSeq_bk, sSeq_a, apIfS_t, apIfS_f, sIf_a, sNext_a, sCont_a, sBreak_a, apRet_some, sRet_a, apRetO_some, sRetO_a, sRetN_a, getO_z, getO_s, apRetV_some, sRetV_a, ltB_z, ltB_s, okSlot_s, apAsg_some, sAsg_a, dName_ok, apG_some, dgCons_a, dgNil_a, apAsgO_some, sAsgO_a, sApp_a, sSetI_a, apFor_some, sFor_a, dItems_a, dRng1_a, dRng2_a, apEn_some, apEn_tup, dEnum_a, sFrz_a, frzs_nil, frzs_cons, frzI_o, frzI_v, frzI_n, frzI_s, frz1_s, frzAll_nil, frzAll_o, frzAll_v, frzAll_n, peekT_a, apPk_int, apPk_bl, apPk_str, apPk_non, peekF_a, dCall_a, toO_o, dCallO_a, dMake_a, Wd_v, Wd_o, dSl_a, apSl_some, oNone_a, oSome_a, apO_some, add_ii, sub_ii, lt_ii, le_ii, gt_ii, ge_ii, eq_ii, ne_ii, neg_i, not_b, bl_b, tru_b, tru_i, tru_l, tru_t, tru_n, len_l, len_t, len_scr, abs_i, int_i, list_l, list_t, tuple_l, tuple_t, min_ii, max_ii, rev_l, items_l, items_t, iL_len, run_a, outW_rt, outW_nx, List.map_cons, List.map_nil, List.replicate, List.append_nil, List.cons_append, List.nil_append, List.set_cons_zero, List.set_cons_succ, Option.map_some, Int.reduceAdd, Int.reduceMul, Int.reduceSub, Int.reduceNeg, beq_self_eq_true, Bool.or_false, Bool.false_or, Bool.true_or, Bool.or_true, Bool.and_false, Bool.false_and, Bool.true_and, Bool.and_true, Zc.isi_ii, Zc.isi_ib, Zc.isi_tt, Zc.isi_ll, Zc.rowsT_len, Zc.rowsL_len, Zc.is_integer_call, Zc.ix_p0, Zc.ix_p1, apR1_any, Int.toNat_natCast, apR2_some, mod_ii, fdiv_ii, mul_small, apApp_some, ix_at, ix_atT, ix_atI, ix_atIT, ix_atR, ix_atRT, List.length_map, List.length_append, List.length_range, List.length_set, Option.map_none, Option.map_map, decide_true, decide_false, peekO_a, apPkO_i, frz_wo, frz_wv, frz_kk, wipeG_nil, wipeG_cons, orB_s, orB_t, orB_f, andB_s, andB_t, andB_f, orV_s, orV_t, orV_f, andV_s, andV_t, andV_f, apOr_b, apAnd_b, apOrV_b, apAndV_b, apCh_b, Zc.cut_from, Zc.cut_to, in_l, in_t, in_pr, eq_op_op, eq_op_pr, eq_pr_op, eq_pr_pr, ne_op_op, ne_op_pr, ne_pr_op, ne_pr_pr, isnt_op, is_op, pr_0, pr_1, st_0, st_1, inP_pr, ninP_pr, nin_l, isi_prt, len_pr, op_some, prD_eq, ix_lit2, ix_lit3, ix_lit4, ix_lit5, ix_lit6, ix_lit7, ix_lit8, ix_lit9, ix_lit10, ix_lit11, ix_lit12, ix_lit13, ix_lit14, ix_lit15, setI_i, setI_p, setI_o, setI_n, snoc_i, snoc_r, snoc_p, snoc_n, snoc_o, snoc_pp, snoc_s, eq_ol, ne_ol, eq_pl, ne_pl, eq_sl, ne_sl, eq_il, ne_il, eq_rl, ne_rl, eq_il1, isi_bb, eq_bb, ne_bb, eq_self, lit, dM1_a, apM1_S, dM0_a, apM0_S, Bool.not_true, Bool.not_false, is_tn, is_nn, is_ln, dTxt_a, apTxt_S, Int.reduceBEq, ca, cz, c0, c9, cComma, cEq, cCol, cSl, cSemi, cSp, dZip_a, apZip_l, is_num1, List.isEmpty_nil, List.isEmpty_cons, Bool.false_eq_true, reduceIte, Option.isNone_none, Option.isNone_some])
local macro_rules | `(tactic| walk_at "zf") => `(tactic| first | (walk_at "zz"; done) | (walk_at "zz"; rfl) | rfl)
local macro_rules | `(tactic| walk_at "lc") => `(tactic| ((case hf => rfl); (case hi => first | (walk_at "zz"; done) | (walk_at "zz"; rfl) | rfl); (case hl => walk_at "zd"); (case h => (intro a ha; refine ⟨_, dName_ok rfl, ?_, fun hT => ?_⟩ <;> walk_at "zz" <;> rfl))))
local macro_rules | `(tactic| walk_at "lm") => `(tactic| ((case hf => rfl); (case hi => first | (walk_at "zz"; done) | (walk_at "zz"; rfl) | rfl); (case hl => walk_at "zd"); (case h => (intro a ha; refine ⟨_, dName_ok rfl, ?_⟩; walk_at "zz"; rfl))))
theorem put_tail (b : Bool) : truD (dS (if b = true then [64] else [])) = some b := by cases b <;> (rw [tru_S (by simp)]; rfl)
theorem colon_tail (b : Bool) : truD (dS (if b = true then [58] else [])) = some b := by cases b <;> (rw [tru_S (by simp)]; rfl)
theorem read_put_spec {a : L} (ha : asc a = true) (hl : a.length ≤ 640) : g_read_put [dS a] = some (.v (oD cmdD (rdPutL a))) := by
  unfold g_read_put t_read_put
  walk_at "zz"
  rw [part_S (by omega)]
  walk_at "zz"
  obtain ⟨l1, l2⟩ := cut_le 58 a
  obtain ⟨a1, a2⟩ := cut_asc 58 ha
  unfold rdPutL
  generalize (cut 58 a).1 = h at l1 a1 ⊢
  generalize hr : (cut 58 a).2 = r at l2 a2 ⊢
  have hh : asc h = true := a1
  have hhl : h.length ≤ 640 := by omega
  obtain ⟨l3, l4⟩ := cut_le 64 h
  obtain ⟨a3, a4⟩ := cut_asc 64 hh
  have hrl : (r.getD []).length ≤ 640 := by omega
  rw [show codes "@" = [64] from rfl, part_S (by omega)]
  generalize (cut 64 h).1 = n at l3 a3 ⊢
  generalize (cut 64 h).2 = q at l4 a4 ⊢
  have hn : n.length ≤ 640 := by omega
  have fin : ∀ (o : Option (List Int)) (w5 w6 : D), (∀ ns, o = some ns → ns.length ≤ 641) → outW ((sSeq (sIf (dOrT (dNotT (tDt truD (dVar 2))) (dOrT (dNotT (tDt truD (dCall 1 (g_is_name) (aCons (dVar 4) aNil)))) (tDt blD (d2 isD (dVar 7) (dC .non)))))
 (sRet (dC .non))
 sNext)
 (sRet (dN mkTup (aCons (dC (dS (codes "put"))) (aCons (dVar 4) (aCons (dN tupleD (aCons (dVar 7) aNil)) (aCons (dVar 3) aNil))))))) [some (.v (dS a)), some (.v (dS h)), some (.v (dS (if r.isSome = true then [58] else []))), some (.v (dS (r.getD []))), some (.v (dS n)), some (.v w5), some (.v w6), some (.v (numsD o))]) = some (.v (oD cmdD (mkPut n r o))) := fun o w5 w6 ho => by
    walk_at "zz"
    rw [colon_tail]
    cases r with
    | none =>
      walk_at "zz"
      cases o <;> rfl
    | some t =>
      rw [show (some t : Option L).isSome = true from rfl]
      walk_at "zz"
      rw [e_is_name, is_name_spec (by omega)]
      cases qn : isName n
      · walk_at "zz"
        cases o <;> simp [mkPut, qn, oD]
      · walk_at "zz"
        cases o with
        | none =>
          walk_at "zz"
          rfl
        | some ns =>
          have := ho ns rfl
          rw [show (some ns : Option (List Int)).isNone = false from rfl, show numsD (some ns) = .lst (iL ns) from rfl]
          walk_at "zz"
          simp [mkPut, qn, oD, cmdD]
  walk_at "zz"
  rw [put_tail]
  cases q with
  | none =>
    rw [show (none : Option L).isSome = false from rfl]
    walk_at "zz"
    exact fin (some []) (dS []) (dS ((none : Option L).getD [])) (fun ns z => by cases z; simp)
  | some s =>
    rw [show (some s : Option L).isSome = true from rfl]
    walk_at "zz"
    have hs : s.length ≤ 640 := by have : ((some s).getD []).length ≤ h.length := l4; have : s.length ≤ h.length := this; omega
    have a5 : asc s = true := a4
    rw [e_read_joined, show (some s : Option L).getD [] = s from rfl, read_joined_spec a5 hs]
    walk_at "zz"
    refine fin (rdNums s) (dS [64]) (dS s) (fun ns z => ?_)
    unfold rdNums at z
    split at z
    · cases z
      rw [List.length_map]
      have := sp_count (c := 44) s.length s (Nat.le_refl _)
      omega
    · cases z
/-- the reading of a line behind the test for a line's end -/
def rdCmd0 (line : L) : Option Cmd :=
  if (cut 32 line).1 = codes "put" then rdPutL ((cut 32 line).2.getD [])
  else if line ∈ alones then some (.alone line)
  else if (cut 32 line).1 ∈ nameds then (if isName ((cut 32 line).2.getD []) = true then some (.named (cut 32 line).1 ((cut 32 line).2.getD [])) else none)
  else rdNumsL (cut 32 line).1 (sp 32 ((cut 32 line).2.getD []))
theorem rdCmd_eq (line : L) : rdCmd line = if 10 ∈ line then none else rdCmd0 line := rfl
theorem ofS (t : String) : Str.ofString t = SX.S (codes t) := TL.ext_tl (TL.tl_ofString t)
theorem in_K (a : L) : ∀ ts : List String, Zrc.inKD (ts.map Str.ofString) (dS a) = some (.bl (decide (a ∈ ts.map codes)))
  | [] => rfl
  | t :: ts => by
    have ih := in_K a ts
    have ih : (ts.map Str.ofString).any (fun z => z == SX.S a) = decide (a ∈ ts.map codes) := D.bl.inj (Option.some.inj ih)
    show some (D.bl ((Str.ofString t == SX.S a) || (ts.map Str.ofString).any fun z => z == SX.S a)) = _
    rw [ih, ofS, SX.S_beq_eq]
    congr 2
    by_cases h : codes t = a
    · rw [decide_eq_true h, Bool.true_or]
      exact (decide_eq_true (by rw [← h]; exact List.mem_cons_self)).symm
    · rw [decide_eq_false h, Bool.false_or]
      by_cases h2 : a ∈ ts.map codes
      · rw [decide_eq_true h2]
        exact (decide_eq_true (List.mem_cons_of_mem _ h2)).symm
      · rw [decide_eq_false h2]
        exact (decide_eq_false fun z => (List.mem_cons.mp z).elim (fun z => h z.symm) h2).symm
theorem in_alones (a : L) : Zrc.inKD ["names", "sends", "mend", "pack"] (dS a) = some (.bl (decide (a ∈ alones))) := in_K a ["names", "sends", "mend", "pack"]
theorem in_nameds (a : L) : Zrc.inKD ["read", "erase"] (dS a) = some (.bl (decide (a ∈ nameds))) := in_K a ["read", "erase"]
def fnd : List (String × Int) → L → D
  | [], _ => .non
  | p :: r, a => if codes p.1 = a then .int p.2 else fnd r a
theorem get_K (a : L) : ∀ ts : List (String × Int), Zrd.fndD (ts.map fun p => (Str.ofString p.1, p.2)) (SX.S a) = fnd ts a
  | [] => rfl
  | t :: ts => by
    have ih := get_K a ts
    show (if Str.ofString t.1 = SX.S a then D.int t.2 else Zrd.fndD (ts.map fun p => (Str.ofString p.1, p.2)) (SX.S a)) = if codes t.1 = a then D.int t.2 else fnd ts a
    rw [ih, ofS]
    by_cases h : codes t.1 = a
    · rw [if_pos h, if_pos (by rw [h])]
    · rw [if_neg h, if_neg fun z => h (SX.S_inj z)]
def cntD : Option Nat → D
  | some n => .int (n : Int)
  | none => .non
theorem get_num (a : L) : Zrd.getKD [("send", 2), ("add", 2), ("drop", 2), ("cap", 2), ("lose", 1)] (dS a) = some (cntD (cntOf a)) := by
  show some (Zrd.fndD _ (SX.S a)) = _
  rw [show Zrd.fndD [("send", 2), ("add", 2), ("drop", 2), ("cap", 2), ("lose", 1)] (SX.S a) = fnd [("send", 2), ("add", 2), ("drop", 2), ("cap", 2), ("lose", 1)] a from get_K a [("send", 2), ("add", 2), ("drop", 2), ("cap", 2), ("lose", 1)]]
  congr 1
  unfold cntOf
  simp only [fnd]
  by_cases h1 : codes "send" = a
  · subst h1; rfl
  by_cases h2 : codes "add" = a
  · subst h2; rfl
  by_cases h3 : codes "drop" = a
  · subst h3; rfl
  by_cases h4 : codes "cap" = a
  · subst h4; rfl
  rw [if_neg h1, if_neg h2, if_neg h3, if_neg h4]
  have ht : a ∉ twos := fun z => by
    simp only [twos, List.mem_cons, List.not_mem_nil, or_false] at z
    rcases z with z | z | z | z
    · exact h1 z.symm
    · exact h2 z.symm
    · exact h3 z.symm
    · exact h4 z.symm
  rw [if_neg ht]
  by_cases h5 : codes "lose" = a
  · rw [if_pos h5, if_pos h5.symm]; rfl
  · rw [if_neg h5, if_neg fun z => h5 z.symm]; rfl
local macro_rules | `(tactic| walk_at "zs") => `(tactic| simp only [beq_self_eq_true, Bool.or_false, Bool.false_or, Bool.true_or, Bool.or_true, Bool.and_false, Bool.false_and, Bool.true_and, Bool.and_true, Zc.isi_ii, Zc.isi_ib, Zc.isi_tt, Zc.isi_ll, Zc.rowsT_len, Zc.rowsL_len, Zc.is_integer_call, Zc.ix_p0, Zc.ix_p1, dgTup2_a, dgTup3_a, Bool.not_true, Bool.not_false, mul_lz, List.flatten_cons, List.flatten_nil, Int.reduceToNat, add_ll, pow10_12, pow10_18, pow10_39, pow10_41, pow10_59, pow10_60, mkLst_some, mkTup_some, List.length_cons, List.length_nil, Nat.zero_le, Nat.reduceAdd, Nat.reduceLeDiff, call1, callO1, call2, callO2, call3, callO3, call4, callO4, call5, callO5, call6, callO6, ap1_some, ap2_some, apN_some, apC_some, d1_a, d2_a, dN_a, aNil_a, aCons_a, dC_a, dVar_z, dVar_s, tDt_a, apAnd_t, apAnd_f, apOr_t, apOr_f, dAndT_a, dOrT_a, apNot_some, dNotT_a, apAndV_t, apAndV_f, dAndV_a, apOrV_t, apOrV_f, dOrV_a, apIf_t, apIf_f, dIf_a, apCh_t, apCh_f, apChain_some, dChain_a, apSeq_nx, apSeq_rt, apSeq_ct, apSeq_bk, sSeq_a, apIfS_t, apIfS_f, sIf_a, sNext_a, sCont_a, sBreak_a, apRet_some, sRet_a, apRetO_some, sRetO_a, sRetN_a, getO_z, getO_s, apRetV_some, sRetV_a, ltB_z, ltB_s, okSlot_s, apAsg_some, sAsg_a, dName_ok, apG_some, dgCons_a, dgNil_a, apAsgO_some, sAsgO_a, sApp_a, sSetI_a, apFor_some, sFor_a, dItems_a, dRng1_a, dRng2_a, apEn_some, apEn_tup, dEnum_a, sFrz_a, frzs_nil, frzs_cons, frzI_o, frzI_v, frzI_n, frzI_s, frz1_s, frzAll_nil, frzAll_o, frzAll_v, frzAll_n, peekT_a, apPk_int, apPk_bl, apPk_str, apPk_non, peekF_a, dCall_a, toO_o, dCallO_a, dMake_a, Wd_v, Wd_o, dSl_a, apSl_some, oNone_a, oSome_a, apO_some, add_ii, sub_ii, lt_ii, le_ii, gt_ii, ge_ii, eq_ii, ne_ii, neg_i, not_b, bl_b, tru_b, tru_i, tru_l, tru_t, tru_n, len_l, len_t, len_scr, abs_i, int_i, list_l, list_t, tuple_l, tuple_t, min_ii, max_ii, rev_l, items_l, items_t, iL_len, run_a, outW_rt, outW_nx, List.map_cons, List.map_nil, List.replicate, List.append_nil, List.cons_append, List.nil_append, List.set_cons_zero, List.set_cons_succ, Option.map_some])
local macro_rules | `(tactic| walk_at "zd") => `(tactic| first | ((with_reducible show okSlot _ _ = true); simp only [okSlot_s, ltB_z, ltB_s]; done) | omega | assumption | decide | (simp only [List.length_map, List.length_append, List.length_cons, List.length_nil, List.length_range, List.length_set, List.length_reverse, iL_len, Zc.rowsT_len, Zc.rowsL_len] at *; omega))
local macro_rules | `(tactic| walk_at "zz") => `(tactic| simp (disch := walk_at "zd") only [dgTup2_a, dgTup3_a, Bool.not_true, Bool.not_false, mul_lz, List.flatten_cons, List.flatten_nil, Int.reduceToNat, add_ll, pow10_12, pow10_18, pow10_39, pow10_41, pow10_59, pow10_60, mkLst_some, mkTup_some, List.length_cons, List.length_nil, Nat.zero_le, Nat.reduceAdd, Nat.reduceLeDiff, call1, callO1, call2, callO2, call3, callO3, call4, callO4, call5, callO5, call6, callO6, ap1_some, ap2_some, apN_some, apC_some, d1_a, d2_a, dN_a, aNil_a, aCons_a, dC_a, dVar_z, dVar_s, tDt_a, apAnd_t, apAnd_f, apOr_t, apOr_f, dAndT_a, dOrT_a, apNot_some, dNotT_a, apAndV_t, apAndV_f, dAndV_a, apOrV_t, apOrV_f, dOrV_a, apIf_t, apIf_f, dIf_a, apCh_t, apCh_f, apChain_some, dChain_a, apSeq_nx, apSeq_rt, apSeq_ct, apSeq_bk, sSeq_a, apIfS_t, apIfS_f, sIf_a, sNext_a, sCont_a, sBreak_a, apRet_some, sRet_a, apRetO_some, sRetO_a, sRetN_a, getO_z, getO_s, apRetV_some, sRetV_a, ltB_z, ltB_s, okSlot_s, apAsg_some, sAsg_a, dName_ok, apG_some, dgCons_a, dgNil_a, apAsgO_some, sAsgO_a, sApp_a, sSetI_a, apFor_some, sFor_a, dItems_a, dRng1_a, dRng2_a, apEn_some, apEn_tup, dEnum_a, sFrz_a, frzs_nil, frzs_cons, frzI_o, frzI_v, frzI_n, frzI_s, frz1_s, frzAll_nil, frzAll_o, frzAll_v, frzAll_n, peekT_a, apPk_int, apPk_bl, apPk_str, apPk_non, peekF_a, dCall_a, toO_o, dCallO_a, dMake_a, Wd_v, Wd_o, dSl_a, apSl_some, oNone_a, oSome_a, apO_some, add_ii, sub_ii, lt_ii, le_ii, gt_ii, ge_ii, eq_ii, ne_ii, neg_i, not_b, bl_b, tru_b, tru_i, tru_l, tru_t, tru_n, len_l, len_t, len_scr, abs_i, int_i, list_l, list_t, tuple_l, tuple_t, min_ii, max_ii, rev_l, items_l, items_t, iL_len, run_a, outW_rt, outW_nx, List.map_cons, List.map_nil, List.replicate, List.append_nil, List.cons_append, List.nil_append, List.set_cons_zero, List.set_cons_succ, Option.map_some, Int.reduceAdd, Int.reduceMul, Int.reduceSub, Int.reduceNeg, beq_self_eq_true, Bool.or_false, Bool.false_or, Bool.true_or, Bool.or_true, Bool.and_false, Bool.false_and, Bool.true_and, Bool.and_true, Zc.isi_ii, Zc.isi_ib, Zc.isi_tt, Zc.isi_ll, Zc.rowsT_len, Zc.rowsL_len, Zc.is_integer_call, Zc.ix_p0, Zc.ix_p1, apR1_any, Int.toNat_natCast, apR2_some, mod_ii, fdiv_ii, mul_small, apApp_some, ix_at, ix_atT, ix_atI, ix_atIT, ix_atR, ix_atRT, List.length_map, List.length_append, List.length_range, List.length_set, Option.map_none, Option.map_map, decide_true, decide_false, peekO_a, apPkO_i, frz_wo, frz_wv, frz_kk, wipeG_nil, wipeG_cons, orB_s, orB_t, orB_f, andB_s, andB_t, andB_f, orV_s, orV_t, orV_f, andV_s, andV_t, andV_f, apOr_b, apAnd_b, apOrV_b, apAndV_b, apCh_b, Zc.cut_from, Zc.cut_to, in_l, in_t, in_pr, eq_op_op, eq_op_pr, eq_pr_op, eq_pr_pr, ne_op_op, ne_op_pr, ne_pr_op, ne_pr_pr, isnt_op, is_op, pr_0, pr_1, st_0, st_1, inP_pr, ninP_pr, nin_l, isi_prt, len_pr, op_some, prD_eq, ix_lit2, ix_lit3, ix_lit4, ix_lit5, ix_lit6, ix_lit7, ix_lit8, ix_lit9, ix_lit10, ix_lit11, ix_lit12, ix_lit13, ix_lit14, ix_lit15, setI_i, setI_p, setI_o, setI_n, snoc_i, snoc_r, snoc_p, snoc_n, snoc_o, snoc_pp, snoc_s, eq_ol, ne_ol, eq_pl, ne_pl, eq_sl, ne_sl, eq_il, ne_il, eq_rl, ne_rl, eq_il1, isi_bb, eq_bb, ne_bb, eq_self, lit, dM1_a, apM1_S, dM0_a, apM0_S, Bool.not_true, Bool.not_false, is_tn, is_nn, is_ln, dTxt_a, apTxt_S, Int.reduceBEq, ca, cz, c0, c9, cComma, cEq, cCol, cSl, cSemi, cSp, dZip_a, apZip_l, is_num1, List.isEmpty_nil, List.isEmpty_cons, Bool.false_eq_true, reduceIte, Option.isNone_none, Option.isNone_some, in_alones, in_nameds, get_num])
local macro_rules | `(tactic| walk_at "zf") => `(tactic| first | (walk_at "zz"; done) | (walk_at "zz"; rfl) | rfl)
local macro_rules | `(tactic| walk_at "lc") => `(tactic| ((case hf => rfl); (case hi => first | (walk_at "zz"; done) | (walk_at "zz"; rfl) | rfl); (case hl => walk_at "zd"); (case h => (intro a ha; refine ⟨_, dName_ok rfl, ?_, fun hT => ?_⟩ <;> walk_at "zz" <;> rfl))))
local macro_rules | `(tactic| walk_at "lm") => `(tactic| ((case hf => rfl); (case hi => first | (walk_at "zz"; done) | (walk_at "zz"; rfl) | rfl); (case hl => walk_at "zd"); (case h => (intro a ha; refine ⟨_, dName_ok rfl, ?_⟩; walk_at "zz"; rfl))))
theorem ne_cnt {n : Nat} {o : Option Nat} : neD (.int (n : Int)) (cntD o) = some (.bl (!decide (o = some n))) := by
  cases o with
  | none => rfl
  | some m =>
    show some (D.bl (!((n : Int) == (m : Int)))) = _
    congr 3
    by_cases h : n = m
    · subst h; simp
    · rw [show ((n : Int) == (m : Int)) = false from beq_eq_false_iff_ne.mpr (by omega)]
      exact (decide_eq_false fun z => h (Option.some.inj z).symm).symm
theorem read_line_spec {c : Cs} {a : L} (ha : asc a = true) (hl : a.length ≤ 640) : g_read_line c [dS a] = some (.v (oD cmdD (rdCmd0 a))) := by
  unfold g_read_line t_read_line
  walk_at "zz"
  rw [part_S (by omega)]
  obtain ⟨l1, l2⟩ := cut_le 32 a
  obtain ⟨a1, a2⟩ := cut_asc 32 ha
  unfold rdCmd0
  generalize (cut 32 a).1 = w at l1 a1 ⊢
  generalize (cut 32 a).2.getD [] = r at l2 a2 ⊢
  walk_at "zz"
  rw [eq_S a1 (by decide)]
  by_cases h1 : w = codes "put"
  · rw [decide_eq_true h1, if_pos h1]
    walk_at "zz"
    rw [read_put_spec a2 (by omega)]
    walk_at "zz"
  rw [decide_eq_false h1, if_neg h1]
  walk_at "zz"
  by_cases h2 : a ∈ alones
  · rw [decide_eq_true h2, if_pos h2]
    walk_at "zz"
    rfl
  rw [decide_eq_false h2, if_neg h2]
  walk_at "zz"
  by_cases h3 : w ∈ nameds
  · rw [decide_eq_true h3, if_pos h3]
    walk_at "zz"
    rw [e_is_name, is_name_spec (by omega)]
    cases q : isName r
    · walk_at "zz"
      simp [oD]
    · walk_at "zz"
      simp [oD, cmdD]
  rw [decide_eq_false h3, if_neg h3]
  walk_at "zz"
  have hc := sp_count (c := 32) r.length r (Nat.le_refl _)
  rw [sp_S (by decide) (by omega)]
  walk_at "zz"
  rw [ne_cnt]
  unfold rdNumsL
  by_cases h4 : cntOf w = some (sp 32 r).length
  · rw [decide_eq_true h4]
    walk_at "zz"
    rewrite [dLc_map dS (xs := sp 32 r) (F := fun a => D.bl (isNum a))]
    case hf => rfl
    case hi => walk_at "zz"
    case hl => omega
    case h =>
      intro v hm
      refine ⟨_, dName_ok rfl, ?_⟩
      walk_at "zz"
      rw [e_is_number, is_number_spec (sp_asc a2 v hm)]
      walk_at "zz"
    walk_at "zz"
    rw [all_bls]
    cases hall : (sp 32 r).all isNum
    · walk_at "zz"
      rw [if_neg (fun z => by cases z.2)]
      rfl
    · walk_at "zz"
      rewrite [dLc_map dS (xs := sp 32 r) (F := fun a => D.int (val a))]
      case hf => rfl
      case hi => walk_at "zz"
      case hl => omega
      case h =>
        intro v hm
        refine ⟨_, dName_ok rfl, ?_⟩
        walk_at "zz"
        exact intS_val (List.all_eq_true.mp hall v hm) (sp_le (by omega) v hm)
      walk_at "zz"
      rw [if_pos ⟨h4, trivial⟩]
      show some (Wd.v (D.tup _)) = some (Wd.v (D.tup (dS w :: (((sp 32 r).map val).map D.int))))
      rw [List.map_map]
      rfl
  · rw [decide_eq_false h4]
    walk_at "zz"
    rw [if_neg (fun z : cntOf w = some (sp 32 r).length ∧ (sp 32 r).all isNum = true => h4 z.1)]
    rfl
end Y
end

section
set_option Elab.async false
set_option linter.all false
set_option maxRecDepth 100000
set_option maxHeartbeats 4000000
/-! The program's line of a command. -/
namespace Y
open L2 Zk Zc Zj Zd Rk
open PySem hiding wordsOf Tok
local macro_rules | `(tactic| walk_at "zs") => `(tactic| simp only [beq_self_eq_true, Bool.or_false, Bool.false_or, Bool.true_or, Bool.or_true, Bool.and_false, Bool.false_and, Bool.true_and, Bool.and_true, Zc.isi_ii, Zc.isi_ib, Zc.isi_tt, Zc.isi_ll, Zc.rowsT_len, Zc.rowsL_len, Zc.is_integer_call, Zc.ix_p0, Zc.ix_p1, dgTup2_a, dgTup3_a, Bool.not_true, Bool.not_false, mul_lz, List.flatten_cons, List.flatten_nil, Int.reduceToNat, add_ll, pow10_12, pow10_18, pow10_39, pow10_41, pow10_59, pow10_60, mkLst_some, mkTup_some, List.length_cons, List.length_nil, Nat.zero_le, Nat.reduceAdd, Nat.reduceLeDiff, call1, callO1, call2, callO2, call3, callO3, call4, callO4, call5, callO5, call6, callO6, ap1_some, ap2_some, apN_some, apC_some, d1_a, d2_a, dN_a, aNil_a, aCons_a, dC_a, dVar_z, dVar_s, tDt_a, apAnd_t, apAnd_f, apOr_t, apOr_f, dAndT_a, dOrT_a, apNot_some, dNotT_a, apAndV_t, apAndV_f, dAndV_a, apOrV_t, apOrV_f, dOrV_a, apIf_t, apIf_f, dIf_a, apCh_t, apCh_f, apChain_some, dChain_a, apSeq_nx, apSeq_rt, apSeq_ct, apSeq_bk, sSeq_a, apIfS_t, apIfS_f, sIf_a, sNext_a, sCont_a, sBreak_a, apRet_some, sRet_a, apRetO_some, sRetO_a, sRetN_a, getO_z, getO_s, apRetV_some, sRetV_a, ltB_z, ltB_s, okSlot_s, apAsg_some, sAsg_a, dName_ok, apG_some, dgCons_a, dgNil_a, apAsgO_some, sAsgO_a, sApp_a, sSetI_a, apFor_some, sFor_a, dItems_a, dRng1_a, dRng2_a, apEn_some, apEn_tup, dEnum_a, sFrz_a, frzs_nil, frzs_cons, frzI_o, frzI_v, frzI_n, frzI_s, frz1_s, frzAll_nil, frzAll_o, frzAll_v, frzAll_n, peekT_a, apPk_int, apPk_bl, apPk_str, apPk_non, peekF_a, dCall_a, toO_o, dCallO_a, dMake_a, Wd_v, Wd_o, dSl_a, apSl_some, oNone_a, oSome_a, apO_some, add_ii, sub_ii, lt_ii, le_ii, gt_ii, ge_ii, eq_ii, ne_ii, neg_i, not_b, bl_b, tru_b, tru_i, tru_l, tru_t, tru_n, len_l, len_t, len_scr, abs_i, int_i, list_l, list_t, tuple_l, tuple_t, min_ii, max_ii, rev_l, items_l, items_t, iL_len, run_a, outW_rt, outW_nx, List.map_cons, List.map_nil, List.replicate, List.append_nil, List.cons_append, List.nil_append, List.set_cons_zero, List.set_cons_succ, Option.map_some])
local macro_rules | `(tactic| walk_at "zd") => `(tactic| first | ((with_reducible show okSlot _ _ = true); simp only [okSlot_s, ltB_z, ltB_s]; done) | omega | assumption | decide | (simp only [List.length_map, List.length_append, List.length_cons, List.length_nil, List.length_range, List.length_set, List.length_reverse, iL_len, Zc.rowsT_len, Zc.rowsL_len] at *; omega))
local macro_rules | `(tactic| walk_at "zz") => `(tactic| simp (disch := walk_at "zd") only [dgTup2_a, dgTup3_a, Bool.not_true, Bool.not_false, mul_lz, List.flatten_cons, List.flatten_nil, Int.reduceToNat, add_ll, pow10_12, pow10_18, pow10_39, pow10_41, pow10_59, pow10_60, mkLst_some, mkTup_some, List.length_cons, List.length_nil, Nat.zero_le, Nat.reduceAdd, Nat.reduceLeDiff, call1, callO1, call2, callO2, call3, callO3, call4, callO4, call5, callO5, call6, callO6, ap1_some, ap2_some, apN_some, apC_some, d1_a, d2_a, dN_a, aNil_a, aCons_a, dC_a, dVar_z, dVar_s, tDt_a, apAnd_t, apAnd_f, apOr_t, apOr_f, dAndT_a, dOrT_a, apNot_some, dNotT_a, apAndV_t, apAndV_f, dAndV_a, apOrV_t, apOrV_f, dOrV_a, apIf_t, apIf_f, dIf_a, apCh_t, apCh_f, apChain_some, dChain_a, apSeq_nx, apSeq_rt, apSeq_ct, apSeq_bk, sSeq_a, apIfS_t, apIfS_f, sIf_a, sNext_a, sCont_a, sBreak_a, apRet_some, sRet_a, apRetO_some, sRetO_a, sRetN_a, getO_z, getO_s, apRetV_some, sRetV_a, ltB_z, ltB_s, okSlot_s, apAsg_some, sAsg_a, dName_ok, apG_some, dgCons_a, dgNil_a, apAsgO_some, sAsgO_a, sApp_a, sSetI_a, apFor_some, sFor_a, dItems_a, dRng1_a, dRng2_a, apEn_some, apEn_tup, dEnum_a, sFrz_a, frzs_nil, frzs_cons, frzI_o, frzI_v, frzI_n, frzI_s, frz1_s, frzAll_nil, frzAll_o, frzAll_v, frzAll_n, peekT_a, apPk_int, apPk_bl, apPk_str, apPk_non, peekF_a, dCall_a, toO_o, dCallO_a, dMake_a, Wd_v, Wd_o, dSl_a, apSl_some, oNone_a, oSome_a, apO_some, add_ii, sub_ii, lt_ii, le_ii, gt_ii, ge_ii, eq_ii, ne_ii, neg_i, not_b, bl_b, tru_b, tru_i, tru_l, tru_t, tru_n, len_l, len_t, len_scr, abs_i, int_i, list_l, list_t, tuple_l, tuple_t, min_ii, max_ii, rev_l, items_l, items_t, iL_len, run_a, outW_rt, outW_nx, List.map_cons, List.map_nil, List.replicate, List.append_nil, List.cons_append, List.nil_append, List.set_cons_zero, List.set_cons_succ, Option.map_some, Int.reduceAdd, Int.reduceMul, Int.reduceSub, Int.reduceNeg, beq_self_eq_true, Bool.or_false, Bool.false_or, Bool.true_or, Bool.or_true, Bool.and_false, Bool.false_and, Bool.true_and, Bool.and_true, Zc.isi_ii, Zc.isi_ib, Zc.isi_tt, Zc.isi_ll, Zc.rowsT_len, Zc.rowsL_len, Zc.is_integer_call, Zc.ix_p0, Zc.ix_p1, apR1_any, Int.toNat_natCast, apR2_some, mod_ii, fdiv_ii, mul_small, apApp_some, ix_at, ix_atT, ix_atI, ix_atIT, ix_atR, ix_atRT, List.length_map, List.length_append, List.length_range, List.length_set, Option.map_none, Option.map_map, decide_true, decide_false, peekO_a, apPkO_i, frz_wo, frz_wv, frz_kk, wipeG_nil, wipeG_cons, orB_s, orB_t, orB_f, andB_s, andB_t, andB_f, orV_s, orV_t, orV_f, andV_s, andV_t, andV_f, apOr_b, apAnd_b, apOrV_b, apAndV_b, apCh_b, Zc.cut_from, Zc.cut_to, in_l, in_t, in_pr, eq_op_op, eq_op_pr, eq_pr_op, eq_pr_pr, ne_op_op, ne_op_pr, ne_pr_op, ne_pr_pr, isnt_op, is_op, pr_0, pr_1, st_0, st_1, inP_pr, ninP_pr, nin_l, isi_prt, len_pr, op_some, prD_eq, ix_lit2, ix_lit3, ix_lit4, ix_lit5, ix_lit6, ix_lit7, ix_lit8, ix_lit9, ix_lit10, ix_lit11, ix_lit12, ix_lit13, ix_lit14, ix_lit15, setI_i, setI_p, setI_o, setI_n, snoc_i, snoc_r, snoc_p, snoc_n, snoc_o, snoc_pp, snoc_s, eq_ol, ne_ol, eq_pl, ne_pl, eq_sl, ne_sl, eq_il, ne_il, eq_rl, ne_rl, eq_il1, isi_bb, eq_bb, ne_bb, eq_self, lit, dM1_a, apM1_S, dM0_a, apM0_S, Bool.not_true, Bool.not_false, is_tn, is_nn, is_ln, dTxt_a, apTxt_S, Int.reduceBEq, ca, cz, c0, c9, cComma, cEq, cCol, cSl, cSemi, cSp, dZip_a, apZip_l, is_num1, List.isEmpty_nil, List.isEmpty_cons, Bool.false_eq_true, reduceIte, Option.isNone_none, Option.isNone_some, in_alones, in_nameds, get_num])
local macro_rules | `(tactic| walk_at "zf") => `(tactic| first | (walk_at "zz"; done) | (walk_at "zz"; rfl) | rfl)
local macro_rules | `(tactic| walk_at "lc") => `(tactic| ((case hf => rfl); (case hi => first | (walk_at "zz"; done) | (walk_at "zz"; rfl) | rfl); (case hl => walk_at "zd"); (case h => (intro a ha; refine ⟨_, dName_ok rfl, ?_, fun hT => ?_⟩ <;> walk_at "zz" <;> rfl))))
local macro_rules | `(tactic| walk_at "lm") => `(tactic| ((case hf => rfl); (case hi => first | (walk_at "zz"; done) | (walk_at "zz"; rfl) | rfl); (case hl => walk_at "zd"); (case h => (intro a ha; refine ⟨_, dName_ok rfl, ?_⟩; walk_at "zz"; rfl))))
structure CmdSm (c : Cmd) : Prop where
  ok : CmdOk c
  len : (lineOf c).length ≤ 640
theorem ix_head (x : D) {r : List D} : ixD (.tup (x :: r)) (.int 0) = some x := by
  have h := at_nat (a := x :: r) (n := 0) (by simp)
  exact h
theorem num_logW {c : Int} (h : NumW c) : c.natAbs.log2 < 1920 := by
  have h1 : c.natAbs < 10 ^ 500 := by
    have h2 := h.h1
    have h3 : ((c.natAbs : Nat) : Int) = c := Int.natAbs_of_nonneg h.h0
    have : ((10 ^ 500 : Nat) : Int) = 10 ^ 500 := by rw [Int.natCast_pow]; rfl
    rw [← h3, ← this] at h2
    exact Int.ofNat_lt.mp h2
  exact Nat.lt_of_lt_of_le (log2_lt (k := 1700) (by decide) (Nat.lt_of_lt_of_le h1 (by decide +kernel))) (by decide)
theorem str_numW {c : Int} (h : NumW c) : strD [.int c] = some (dS (num c)) := by
  show (if c.natAbs.log2 < 1920 then some (D.str (toString c)) else none) = _
  rw [if_pos (num_logW h)]
  obtain ⟨n, rfl⟩ := Int.eq_ofNat_of_zero_le h.h0
  rw [num_nat]
  exact congrArg (fun z => some (D.str z)) (SX.num_S n)
theorem strA_i {x : Int} (h : NumW x) : Zrd.strAD [.int x] = some (dS (num x)) := str_numW h
theorem len_join44 : ∀ ws : List L, (ws.map List.length).sum + ws.length ≤ (TL.joinL [44] ws).length + 1
  | [] => by simp
  | [p] => by show p.length + 0 + 1 ≤ p.length + 1; omega
  | p :: q :: r => by
    have h := len_join44 (q :: r)
    show (p.length + ((q :: r).map List.length).sum) + ((q :: r).length + 1) ≤ (p ++ ([44] ++ TL.joinL [44] (q :: r))).length + 1
    rw [List.length_append, List.length_append]
    simp only [List.length_cons, List.length_nil] at h ⊢
    omega
theorem joined_any {ns : List Int} (h : ∀ x ∈ ns, NumW x) (hl : ns.length ≤ 640) (hj : (joinN ns).length ≤ 640) : g_joined [.tup (iL ns)] = some (.v (dS (joinN ns))) := by
  unfold g_joined t_joined
  walk_at "zz"
  rewrite [dLc_map (D.int) (xs := ns) (F := fun n => dS (num n))]
  case hf => rfl
  case hi => walk_at "zz"; rfl
  case hl => omega
  case h =>
    intro n hn
    refine ⟨_, dName_ok rfl, ?_⟩
    walk_at "zz"
    exact str_numW (h n hn)
  walk_at "zz"
  have e2 : ns.map (fun n => dS (num n)) = (ns.map num).map dS := by rw [List.map_map]; rfl
  have e4 := len_join44 (ns.map num)
  rw [e2, join_S (by unfold joinN at hj; show _ + _ * 1 ≤ _; omega)]
  walk_at "zz"
  rfl
theorem put_line_spec {n : L} {a : List Int} {t : L} (h : CmdSm (.put n a t)) : g_put_line [cmdD (.put n a t)] = some (.v (dS (lineOf (.put n a t)))) := by
  obtain ⟨⟨h1, h2, h3⟩, hl⟩ := h
  have hl : (codes "put " ++ n ++ tailN a ++ 58 :: t).length ≤ 640 := hl
  rw [List.length_append, List.length_append, List.length_append, List.length_cons] at hl
  unfold g_put_line t_put_line
  rw [show cmdD (.put n a t) = .tup [dS (codes "put"), dS n, .tup (iL a), dS t] from rfl]
  walk_at "zz"
  rw [show dgTup 4 (dgCons (dName 1) (dgCons (dName 2) (dgCons (dName 3) (dgCons (dName 4) dgNil)))) (.tup [dS (codes "put"), dS n, .tup (iL a), dS t]) [some (.v (.tup [dS (codes "put"), dS n, .tup (iL a), dS t])), none, none, none, none, none] = some [some (.v (.tup [dS (codes "put"), dS n, .tup (iL a), dS t])), some (.v (dS (codes "put"))), some (.v (dS n)), some (.v (.tup (iL a))), some (.v (dS t)), none] from rfl]
  walk_at "zz"
  have lp : (codes "put ").length = 4 := rfl
  have fin : ∀ u : L, u.length ≤ 640 → u = tailN a → outW ((sRet (dJoin [dC (dS (codes "put ")), d1 fmtD (dVar 2), d1 fmtD (dVar 5), dC (dS [58]), d1 fmtD (dVar 4)])) [some (.v (.tup [dS (codes "put"), dS n, .tup (iL a), dS t])), some (.v (dS (codes "put"))), some (.v (dS n)), some (.v (.tup (iL a))), some (.v (dS t)), some (.v (dS u))]) = some (.v (dS (lineOf (.put n a t)))) := fun u hu eu => by
    subst eu
    rw [sRet_a, dJoin_a]
    simp only [List.map_cons, List.map_nil]
    walk_at "zz"
    rw [fmt_S (by omega), fmt_S (by omega), fmt_S (by omega)]
    rw [apJs_cons (by simp only [List.length_append, List.length_nil]; omega), apJs_cons (by simp only [List.length_append, List.length_nil]; omega), apJs_cons (by simp only [List.length_append, List.length_nil]; omega), apJs_cons (by simp only [List.length_append, List.length_nil, List.length_cons]; omega), apJs_cons (by simp only [List.length_append, List.length_nil, List.length_cons]; omega), apJs_nil]
    walk_at "zz"
    show some (Wd.v (dS _)) = some (Wd.v (dS (codes "put " ++ n ++ tailN a ++ 58 :: t)))
    simp
  cases a with
  | nil =>
    rw [show (!(iL ([] : List Int)).isEmpty) = false from rfl]
    walk_at "zz"
    exact fin [] (by simp) rfl
  | cons x r =>
    rw [show (!(iL (x :: r)).isEmpty) = true from rfl]
    have hj : (joinN (x :: r)).length + 1 ≤ 640 := by
      have : (tailN (x :: r)).length = (joinN (x :: r)).length + 1 := rfl
      omega
    have hal : (x :: r).length ≤ 640 := by
      have h9 := joinL_ge (s := [44]) (by simp) ((x :: r).map num)
      rw [List.length_map] at h9
      unfold joinN at hj
      omega
    walk_at "zz"
    rw [joined_any h2 hal (by omega)]
    walk_at "zz"
    rw [show codes "@" = [64] from rfl, add_S (by simp; omega)]
    walk_at "zz"
    exact fin (64 :: joinN (x :: r)) (by rw [List.length_cons]; omega) rfl
theorem put_kw (c : Cmd) (h : CmdOk c) : ∃ k, ixD (cmdD c) (.int 0) = some (dS k) ∧ asc k = true ∧ (k = codes "put" ↔ ∃ n a t, c = .put n a t) := by
  have hkw : ∀ k ∈ codes "lose" :: (nameds ++ alones ++ twos), asc k = true ∧ k ≠ codes "put" := by decide
  cases c with
  | put n a t => exact ⟨codes "put", rfl, by decide, fun _ => ⟨n, a, t, rfl⟩, fun _ => rfl⟩
  | named w n =>
    obtain ⟨q1, q2⟩ := hkw w (by have := h.1; simp [this])
    exact ⟨w, rfl, q1, fun z => absurd z q2, fun ⟨_, _, _, z⟩ => by cases z⟩
  | nums w ns =>
    have hm : w ∈ codes "lose" :: (nameds ++ alones ++ twos) := by
      rcases (cnt_iff w _).mp h.1 with ⟨z, _⟩ | ⟨z, _⟩
      · simp [z]
      · rw [z]; exact List.mem_cons_self
    obtain ⟨q1, q2⟩ := hkw w hm
    exact ⟨w, ix_head _, q1, fun z => absurd z q2, fun ⟨_, _, _, z⟩ => by cases z⟩
  | alone w =>
    obtain ⟨q1, q2⟩ := hkw w (by have h : w ∈ alones := h; simp [h])
    exact ⟨w, rfl, q1, fun z => absurd z q2, fun ⟨_, _, _, z⟩ => by cases z⟩
/-- the parts of a command that is no put -/
inductive Prt
  | s (a : L)
  | i (x : Int)
def prtD : Prt → D
  | .s a => dS a
  | .i x => .int x
def prtT : Prt → L
  | .s a => a
  | .i x => num x
def partsC : Cmd → List Prt
  | .put _ _ _ => []
  | .named w n => [.s w, .s n]
  | .nums w ns => .s w :: ns.map .i
  | .alone w => [.s w]
def isPut : Cmd → Bool
  | .put _ _ _ => true
  | _ => false
theorem parts_D {c : Cmd} (h : isPut c = false) : cmdD c = .tup ((partsC c).map prtD) := by
  cases c with
  | put => cases h
  | named => rfl
  | nums w ns =>
    show D.tup (dS w :: iL ns) = .tup (dS w :: (ns.map Prt.i).map prtD)
    rw [List.map_map]
    rfl
  | alone => rfl
theorem parts_J {c : Cmd} (h : isPut c = false) : lineOf c = J ((partsC c).map prtT) := by
  cases c with
  | put => cases h
  | named w n => rfl
  | nums w ns =>
    show J (w :: ns.map num) = J (w :: (ns.map Prt.i).map prtT)
    rw [List.map_map]
    rfl
  | alone w => rfl
theorem parts_ok {c : Cmd} (h : CmdOk c) : ∀ p ∈ partsC c, ∀ x, p = .i x → NumW x := fun p m x e => by
  cases c with
  | put => cases m
  | named w n =>
    simp only [partsC, List.mem_cons, List.not_mem_nil, or_false] at m
    rcases m with z | z <;> rw [z] at e <;> cases e
  | nums w ns =>
    rcases List.mem_cons.mp m with z | z
    · rw [z] at e; cases e
    · obtain ⟨y, hy, q⟩ := List.mem_map.mp z
      rw [← q] at e
      cases e
      exact h.2 x hy
  | alone w =>
    rw [List.mem_singleton.mp m] at e
    cases e
theorem len_join1 : ∀ ws : List L, (ws.map List.length).sum + ws.length ≤ (TL.joinL [32] ws).length + 1
  | [] => by simp
  | [p] => by show p.length + 0 + 1 ≤ p.length + 1; omega
  | p :: q :: r => by
    have h := len_join1 (q :: r)
    show (p.length + ((q :: r).map List.length).sum) + ((q :: r).length + 1) ≤ (p ++ ([32] ++ TL.joinL [32] (q :: r))).length + 1
    rw [List.length_append, List.length_append]
    simp only [List.length_cons, List.length_nil] at h ⊢
    omega
theorem command_line_spec {c : Cmd} (h : CmdSm c) : g_command_line [cmdD c] = some (.v (dS (lineOf c))) := by
  obtain ⟨k, k1, k2, k3⟩ := put_kw c h.ok
  unfold g_command_line t_command_line
  walk_at "zz"
  rw [k1]
  walk_at "zz"
  rw [eq_S k2 (by decide)]
  cases hp : isPut c
  · have hk : k ≠ codes "put" := fun z => by
      obtain ⟨n, a, t, rfl⟩ := k3.mp z
      cases hp
    rw [decide_eq_false hk, parts_D hp]
    walk_at "zz"
    have hl := h.len
    rw [parts_J hp] at hl ⊢
    have hpl : (partsC c).length ≤ 641 := by
      have := joinL_ge (s := [32]) (by simp) ((partsC c).map prtT)
      rw [List.length_map] at this
      unfold J at hl
      omega
    rewrite [dLc_map prtD (xs := partsC c) (F := fun p => dS (prtT p))]
    case hf => rfl
    case hi => walk_at "zz"
    case hl => omega
    case h =>
      intro p hm
      refine ⟨_, dName_ok rfl, ?_⟩
      walk_at "zz"
      cases p with
      | s a => rfl
      | i x => exact strA_i (parts_ok h.ok _ hm x rfl)
    walk_at "zz"
    rw [show (partsC c).map (fun p => dS (prtT p)) = ((partsC c).map prtT).map dS by rw [List.map_map]; rfl]
    rw [join_S (by have := len_join1 ((partsC c).map prtT); unfold J at hl; show _ + _ * 1 ≤ _; omega)]
    walk_at "zz"
    rfl
  · cases c with
    | put n a t =>
      rw [decide_eq_true (k3.mpr ⟨n, a, t, rfl⟩)]
      walk_at "zz"
      rw [put_line_spec h]
      walk_at "zz"
    | _ => cases hp
end Y
end

section
set_option Elab.async false
set_option linter.all false
set_option maxRecDepth 100000
set_option maxHeartbeats 4000000
/-! The law's own reading. -/
namespace Y
open L2 Zk Zc Zj Zd Rk
open PySem hiding wordsOf Tok
theorem ix4_0 {a b c d : D} : ixD (.tup [a, b, c, d]) (.int 0) = some a := (rfl)
theorem ix4_1 {a b c d : D} : ixD (.tup [a, b, c, d]) (.int 1) = some b := (rfl)
theorem ix4_2 {a b c d : D} : ixD (.tup [a, b, c, d]) (.int 2) = some c := (rfl)
theorem ix4_3 {a b c d : D} : ixD (.tup [a, b, c, d]) (.int 3) = some d := (rfl)
local macro_rules | `(tactic| walk_at "zs") => `(tactic| simp only [beq_self_eq_true, Bool.or_false, Bool.false_or, Bool.true_or, Bool.or_true, Bool.and_false, Bool.false_and, Bool.true_and, Bool.and_true, Zc.isi_ii, Zc.isi_ib, Zc.isi_tt, Zc.isi_ll, Zc.rowsT_len, Zc.rowsL_len, Zc.is_integer_call, Zc.ix_p0, Zc.ix_p1, dgTup2_a, dgTup3_a, Bool.not_true, Bool.not_false, mul_lz, List.flatten_cons, List.flatten_nil, Int.reduceToNat, add_ll, pow10_12, pow10_18, pow10_39, pow10_41, pow10_59, pow10_60, mkLst_some, mkTup_some, List.length_cons, List.length_nil, Nat.zero_le, Nat.reduceAdd, Nat.reduceLeDiff, call1, callO1, call2, callO2, call3, callO3, call4, callO4, call5, callO5, call6, callO6, ap1_some, ap2_some, apN_some, apC_some, d1_a, d2_a, dN_a, aNil_a, aCons_a, dC_a, dVar_z, dVar_s, tDt_a, apAnd_t, apAnd_f, apOr_t, apOr_f, dAndT_a, dOrT_a, apNot_some, dNotT_a, apAndV_t, apAndV_f, dAndV_a, apOrV_t, apOrV_f, dOrV_a, apIf_t, apIf_f, dIf_a, apCh_t, apCh_f, apChain_some, dChain_a, apSeq_nx, apSeq_rt, apSeq_ct, apSeq_bk, sSeq_a, apIfS_t, apIfS_f, sIf_a, sNext_a, sCont_a, sBreak_a, apRet_some, sRet_a, apRetO_some, sRetO_a, sRetN_a, getO_z, getO_s, apRetV_some, sRetV_a, ltB_z, ltB_s, okSlot_s, apAsg_some, sAsg_a, dName_ok, apG_some, dgCons_a, dgNil_a, apAsgO_some, sAsgO_a, sApp_a, sSetI_a, apFor_some, sFor_a, dItems_a, dRng1_a, dRng2_a, apEn_some, apEn_tup, dEnum_a, sFrz_a, frzs_nil, frzs_cons, frzI_o, frzI_v, frzI_n, frzI_s, frz1_s, frzAll_nil, frzAll_o, frzAll_v, frzAll_n, peekT_a, apPk_int, apPk_bl, apPk_str, apPk_non, peekF_a, dCall_a, toO_o, dCallO_a, dMake_a, Wd_v, Wd_o, dSl_a, apSl_some, oNone_a, oSome_a, apO_some, add_ii, sub_ii, lt_ii, le_ii, gt_ii, ge_ii, eq_ii, ne_ii, neg_i, not_b, bl_b, tru_b, tru_i, tru_l, tru_t, tru_n, len_l, len_t, len_scr, abs_i, int_i, list_l, list_t, tuple_l, tuple_t, min_ii, max_ii, rev_l, items_l, items_t, iL_len, run_a, outW_rt, outW_nx, List.map_cons, List.map_nil, List.replicate, List.append_nil, List.cons_append, List.nil_append, List.set_cons_zero, List.set_cons_succ, Option.map_some])
local macro_rules | `(tactic| walk_at "zd") => `(tactic| first | ((with_reducible show okSlot _ _ = true); simp only [okSlot_s, ltB_z, ltB_s]; done) | omega | assumption | decide | (simp only [List.length_map, List.length_append, List.length_cons, List.length_nil, List.length_range, List.length_set, List.length_reverse, iL_len, Zc.rowsT_len, Zc.rowsL_len] at *; omega))
local macro_rules | `(tactic| walk_at "zz") => `(tactic| simp (disch := walk_at "zd") only [dgTup2_a, dgTup3_a, Bool.not_true, Bool.not_false, mul_lz, List.flatten_cons, List.flatten_nil, Int.reduceToNat, add_ll, pow10_12, pow10_18, pow10_39, pow10_41, pow10_59, pow10_60, mkLst_some, mkTup_some, List.length_cons, List.length_nil, Nat.zero_le, Nat.reduceAdd, Nat.reduceLeDiff, call1, callO1, call2, callO2, call3, callO3, call4, callO4, call5, callO5, call6, callO6, ap1_some, ap2_some, apN_some, apC_some, d1_a, d2_a, dN_a, aNil_a, aCons_a, dC_a, dVar_z, dVar_s, tDt_a, apAnd_t, apAnd_f, apOr_t, apOr_f, dAndT_a, dOrT_a, apNot_some, dNotT_a, apAndV_t, apAndV_f, dAndV_a, apOrV_t, apOrV_f, dOrV_a, apIf_t, apIf_f, dIf_a, apCh_t, apCh_f, apChain_some, dChain_a, apSeq_nx, apSeq_rt, apSeq_ct, apSeq_bk, sSeq_a, apIfS_t, apIfS_f, sIf_a, sNext_a, sCont_a, sBreak_a, apRet_some, sRet_a, apRetO_some, sRetO_a, sRetN_a, getO_z, getO_s, apRetV_some, sRetV_a, ltB_z, ltB_s, okSlot_s, apAsg_some, sAsg_a, dName_ok, apG_some, dgCons_a, dgNil_a, apAsgO_some, sAsgO_a, sApp_a, sSetI_a, apFor_some, sFor_a, dItems_a, dRng1_a, dRng2_a, apEn_some, apEn_tup, dEnum_a, sFrz_a, frzs_nil, frzs_cons, frzI_o, frzI_v, frzI_n, frzI_s, frz1_s, frzAll_nil, frzAll_o, frzAll_v, frzAll_n, peekT_a, apPk_int, apPk_bl, apPk_str, apPk_non, peekF_a, dCall_a, toO_o, dCallO_a, dMake_a, Wd_v, Wd_o, dSl_a, apSl_some, oNone_a, oSome_a, apO_some, add_ii, sub_ii, lt_ii, le_ii, gt_ii, ge_ii, eq_ii, ne_ii, neg_i, not_b, bl_b, tru_b, tru_i, tru_l, tru_t, tru_n, len_l, len_t, len_scr, abs_i, int_i, list_l, list_t, tuple_l, tuple_t, min_ii, max_ii, rev_l, items_l, items_t, iL_len, run_a, outW_rt, outW_nx, List.map_cons, List.map_nil, List.replicate, List.append_nil, List.cons_append, List.nil_append, List.set_cons_zero, List.set_cons_succ, Option.map_some, Int.reduceAdd, Int.reduceMul, Int.reduceSub, Int.reduceNeg, beq_self_eq_true, Bool.or_false, Bool.false_or, Bool.true_or, Bool.or_true, Bool.and_false, Bool.false_and, Bool.true_and, Bool.and_true, Zc.isi_ii, Zc.isi_ib, Zc.isi_tt, Zc.isi_ll, Zc.rowsT_len, Zc.rowsL_len, Zc.is_integer_call, Zc.ix_p0, Zc.ix_p1, apR1_any, Int.toNat_natCast, apR2_some, mod_ii, fdiv_ii, mul_small, apApp_some, ix_at, ix_atT, ix_atI, ix_atIT, ix_atR, ix_atRT, List.length_map, List.length_append, List.length_range, List.length_set, Option.map_none, Option.map_map, decide_true, decide_false, peekO_a, apPkO_i, frz_wo, frz_wv, frz_kk, wipeG_nil, wipeG_cons, orB_s, orB_t, orB_f, andB_s, andB_t, andB_f, orV_s, orV_t, orV_f, andV_s, andV_t, andV_f, apOr_b, apAnd_b, apOrV_b, apAndV_b, apCh_b, Zc.cut_from, Zc.cut_to, in_l, in_t, in_pr, eq_op_op, eq_op_pr, eq_pr_op, eq_pr_pr, ne_op_op, ne_op_pr, ne_pr_op, ne_pr_pr, isnt_op, is_op, pr_0, pr_1, st_0, st_1, inP_pr, ninP_pr, nin_l, isi_prt, len_pr, op_some, prD_eq, ix_lit2, ix_lit3, ix_lit4, ix_lit5, ix_lit6, ix_lit7, ix_lit8, ix_lit9, ix_lit10, ix_lit11, ix_lit12, ix_lit13, ix_lit14, ix_lit15, setI_i, setI_p, setI_o, setI_n, snoc_i, snoc_r, snoc_p, snoc_n, snoc_o, snoc_pp, snoc_s, eq_ol, ne_ol, eq_pl, ne_pl, eq_sl, ne_sl, eq_il, ne_il, eq_rl, ne_rl, eq_il1, isi_bb, eq_bb, ne_bb, eq_self, lit, dM1_a, apM1_S, dM0_a, apM0_S, Bool.not_true, Bool.not_false, is_tn, is_nn, is_ln, dTxt_a, apTxt_S, Int.reduceBEq, ca, cz, c0, c9, cComma, cEq, cCol, cSl, cSemi, cSp, dZip_a, apZip_l, is_num1, List.isEmpty_nil, List.isEmpty_cons, Bool.false_eq_true, reduceIte, Option.isNone_none, Option.isNone_some, in_alones, in_nameds, get_num, ix4_0, ix4_1, ix4_2, ix4_3])
local macro_rules | `(tactic| walk_at "zf") => `(tactic| first | (walk_at "zz"; done) | (walk_at "zz"; rfl) | rfl)
local macro_rules | `(tactic| walk_at "lc") => `(tactic| ((case hf => rfl); (case hi => first | (walk_at "zz"; done) | (walk_at "zz"; rfl) | rfl); (case hl => walk_at "zd"); (case h => (intro a ha; refine ⟨_, dName_ok rfl, ?_, fun hT => ?_⟩ <;> walk_at "zz" <;> rfl))))
local macro_rules | `(tactic| walk_at "lm") => `(tactic| ((case hf => rfl); (case hi => first | (walk_at "zz"; done) | (walk_at "zz"; rfl) | rfl); (case hl => walk_at "zd"); (case h => (intro a ha; refine ⟨_, dName_ok rfl, ?_⟩; walk_at "zz"; rfl))))
theorem law_line_spec {c : Cmd} (h : CmdSm c) : g_law_line [cmdD c] = some (.v (dS (lineOf c))) := by
  obtain ⟨k, k1, k2, k3⟩ := put_kw c h.ok
  have hl := h.len
  unfold g_law_line t_law_line
  walk_at "zz"
  rw [k1]
  walk_at "zz"
  rw [ne_S k2 (by decide)]
  cases hp : isPut c
  · have hk : k ≠ codes "put" := fun z => by
      obtain ⟨n, a, t, rfl⟩ := k3.mp z
      cases hp
    rw [decide_eq_false hk, parts_D hp]
    walk_at "zz"
    rw [parts_J hp] at hl ⊢
    have hpl : (partsC c).length ≤ 641 := by
      have := joinL_ge (s := [32]) (by simp) ((partsC c).map prtT)
      rw [List.length_map] at this
      unfold J at hl
      omega
    rewrite [dLc_map prtD (xs := partsC c) (F := fun p => dS (prtT p))]
    case hf => rfl
    case hi => walk_at "zz"
    case hl => omega
    case h =>
      intro p hm
      refine ⟨_, dName_ok rfl, ?_⟩
      walk_at "zz"
      cases p with
      | s a => rfl
      | i x => exact strA_i (parts_ok h.ok _ hm x rfl)
    walk_at "zz"
    rw [show (partsC c).map (fun p => dS (prtT p)) = ((partsC c).map prtT).map dS by rw [List.map_map]; rfl]
    rw [join_S (by have := len_join1 ((partsC c).map prtT); unfold J at hl; show _ + _ * 1 ≤ _; omega)]
    walk_at "zz"
    rfl
  · cases c with
    | put n a t =>
      rw [decide_eq_true (k3.mpr ⟨n, a, t, rfl⟩)]
      rw [show cmdD (.put n a t) = .tup [dS (codes "put"), dS n, .tup (iL a), dS t] from rfl]
      obtain ⟨⟨h1, h2, h3⟩, _⟩ := h
      have hl : (codes "put " ++ n ++ tailN a ++ 58 :: t).length ≤ 640 := hl
      rw [List.length_append, List.length_append, List.length_append, List.length_cons] at hl
      have lp : (codes "put ").length = 4 := rfl
      have lc : (codes ":").length = 1 := rfl
      walk_at "zz"
      cases a with
      | nil =>
        rw [show ((((([] : List Int).length : Nat) : Int)) == 0) = true from rfl]
        walk_at "zz"
        rw [add_S (by omega)]
        walk_at "zz"
        rw [add_S (by rw [List.length_append]; simp; omega)]
        walk_at "zz"
        rw [add_S (by rw [List.length_append, List.length_append]; simp; omega)]
        walk_at "zz"
        show some (Wd.v (dS _)) = some (Wd.v (dS (codes "put " ++ n ++ [] ++ 58 :: t)))
        simp
      | cons x r =>
        rw [show ((((x :: r).length : Nat) : Int) == 0) = false from beq_eq_false_iff_ne.mpr (by rw [List.length_cons]; omega)]
        have hj : (joinN (x :: r)).length + 1 ≤ 640 := by
          have : (tailN (x :: r)).length = (joinN (x :: r)).length + 1 := rfl
          omega
        have hj2 : (codes "put ").length + n.length + ((joinN (x :: r)).length + 1) + (t.length + 1) ≤ 640 := by
          have : (tailN (x :: r)).length = (joinN (x :: r)).length + 1 := rfl
          omega
        have hal : (x :: r).length ≤ 640 := by
          have h9 := joinL_ge (s := [44]) (by simp) ((x :: r).map num)
          rw [List.length_map] at h9
          unfold joinN at hj
          omega
        have hT : tailN (x :: r) = 64 :: joinN (x :: r) := rfl
        generalize x :: r = ns at h2 hj hj2 hal hT ⊢
        walk_at "zz"
        rw [add_S (by omega)]
        walk_at "zz"
        rw [add_S (by rw [List.length_append]; show _ + _ + 1 ≤ _; omega)]
        rewrite [dLc_map (D.int) (xs := ns) (F := fun n => dS (num n))]
        case hf => rfl
        case hi => walk_at "zz"; rfl
        case hl => omega
        case h =>
          intro y hy
          refine ⟨_, dName_ok rfl, ?_⟩
          walk_at "zz"
          exact str_numW (h2 y hy)
        walk_at "zz"
        have e2 : ns.map (fun n => dS (num n)) = (ns.map num).map dS := by rw [List.map_map]; rfl
        have e4 := len_join44 (ns.map num)
        rw [e2, join_S (by unfold joinN at hj; show _ + _ * 1 ≤ _; omega)]
        rw [show TL.joinL [44] (ns.map num) = joinN ns from rfl]
        have la : (codes "@").length = 1 := rfl
        walk_at "zz"
        rw [add_S (by simp only [List.length_append]; omega)]
        walk_at "zz"
        rw [add_S (by simp only [List.length_append, List.length_cons, List.length_nil]; omega)]
        walk_at "zz"
        rw [add_S (by simp only [List.length_append, List.length_cons, List.length_nil]; omega)]
        walk_at "zz"
        show some (Wd.v (dS _)) = some (Wd.v (dS (codes "put " ++ n ++ tailN ns ++ 58 :: t)))
        rw [hT, show codes "@" = [64] from rfl]
        simp
    | _ => cases hp
end Y
end

section
set_option Elab.async false
set_option linter.all false
set_option maxRecDepth 100000
set_option maxHeartbeats 4000000
/-! The law's numbers and names. -/
namespace Y
open L2 Zk Zc Zj Zd Rk
open PySem hiding wordsOf Tok
local macro_rules | `(tactic| walk_at "zs") => `(tactic| simp only [beq_self_eq_true, Bool.or_false, Bool.false_or, Bool.true_or, Bool.or_true, Bool.and_false, Bool.false_and, Bool.true_and, Bool.and_true, Zc.isi_ii, Zc.isi_ib, Zc.isi_tt, Zc.isi_ll, Zc.rowsT_len, Zc.rowsL_len, Zc.is_integer_call, Zc.ix_p0, Zc.ix_p1, dgTup2_a, dgTup3_a, Bool.not_true, Bool.not_false, mul_lz, List.flatten_cons, List.flatten_nil, Int.reduceToNat, add_ll, pow10_12, pow10_18, pow10_39, pow10_41, pow10_59, pow10_60, mkLst_some, mkTup_some, List.length_cons, List.length_nil, Nat.zero_le, Nat.reduceAdd, Nat.reduceLeDiff, call1, callO1, call2, callO2, call3, callO3, call4, callO4, call5, callO5, call6, callO6, ap1_some, ap2_some, apN_some, apC_some, d1_a, d2_a, dN_a, aNil_a, aCons_a, dC_a, dVar_z, dVar_s, tDt_a, apAnd_t, apAnd_f, apOr_t, apOr_f, dAndT_a, dOrT_a, apNot_some, dNotT_a, apAndV_t, apAndV_f, dAndV_a, apOrV_t, apOrV_f, dOrV_a, apIf_t, apIf_f, dIf_a, apCh_t, apCh_f, apChain_some, dChain_a, apSeq_nx, apSeq_rt, apSeq_ct, apSeq_bk, sSeq_a, apIfS_t, apIfS_f, sIf_a, sNext_a, sCont_a, sBreak_a, apRet_some, sRet_a, apRetO_some, sRetO_a, sRetN_a, getO_z, getO_s, apRetV_some, sRetV_a, ltB_z, ltB_s, okSlot_s, apAsg_some, sAsg_a, dName_ok, apG_some, dgCons_a, dgNil_a, apAsgO_some, sAsgO_a, sApp_a, sSetI_a, apFor_some, sFor_a, dItems_a, dRng1_a, dRng2_a, apEn_some, apEn_tup, dEnum_a, sFrz_a, frzs_nil, frzs_cons, frzI_o, frzI_v, frzI_n, frzI_s, frz1_s, frzAll_nil, frzAll_o, frzAll_v, frzAll_n, peekT_a, apPk_int, apPk_bl, apPk_str, apPk_non, peekF_a, dCall_a, toO_o, dCallO_a, dMake_a, Wd_v, Wd_o, dSl_a, apSl_some, oNone_a, oSome_a, apO_some, add_ii, sub_ii, lt_ii, le_ii, gt_ii, ge_ii, eq_ii, ne_ii, neg_i, not_b, bl_b, tru_b, tru_i, tru_l, tru_t, tru_n, len_l, len_t, len_scr, abs_i, int_i, list_l, list_t, tuple_l, tuple_t, min_ii, max_ii, rev_l, items_l, items_t, iL_len, run_a, outW_rt, outW_nx, List.map_cons, List.map_nil, List.replicate, List.append_nil, List.cons_append, List.nil_append, List.set_cons_zero, List.set_cons_succ, Option.map_some])
local macro_rules | `(tactic| walk_at "zd") => `(tactic| first | ((with_reducible show okSlot _ _ = true); simp only [okSlot_s, ltB_z, ltB_s]; done) | omega | assumption | decide | (simp only [List.length_map, List.length_append, List.length_cons, List.length_nil, List.length_range, List.length_set, List.length_reverse, iL_len, Zc.rowsT_len, Zc.rowsL_len] at *; omega))
local macro_rules | `(tactic| walk_at "zz") => `(tactic| simp (disch := walk_at "zd") only [dgTup2_a, dgTup3_a, Bool.not_true, Bool.not_false, mul_lz, List.flatten_cons, List.flatten_nil, Int.reduceToNat, add_ll, pow10_12, pow10_18, pow10_39, pow10_41, pow10_59, pow10_60, mkLst_some, mkTup_some, List.length_cons, List.length_nil, Nat.zero_le, Nat.reduceAdd, Nat.reduceLeDiff, call1, callO1, call2, callO2, call3, callO3, call4, callO4, call5, callO5, call6, callO6, ap1_some, ap2_some, apN_some, apC_some, d1_a, d2_a, dN_a, aNil_a, aCons_a, dC_a, dVar_z, dVar_s, tDt_a, apAnd_t, apAnd_f, apOr_t, apOr_f, dAndT_a, dOrT_a, apNot_some, dNotT_a, apAndV_t, apAndV_f, dAndV_a, apOrV_t, apOrV_f, dOrV_a, apIf_t, apIf_f, dIf_a, apCh_t, apCh_f, apChain_some, dChain_a, apSeq_nx, apSeq_rt, apSeq_ct, apSeq_bk, sSeq_a, apIfS_t, apIfS_f, sIf_a, sNext_a, sCont_a, sBreak_a, apRet_some, sRet_a, apRetO_some, sRetO_a, sRetN_a, getO_z, getO_s, apRetV_some, sRetV_a, ltB_z, ltB_s, okSlot_s, apAsg_some, sAsg_a, dName_ok, apG_some, dgCons_a, dgNil_a, apAsgO_some, sAsgO_a, sApp_a, sSetI_a, apFor_some, sFor_a, dItems_a, dRng1_a, dRng2_a, apEn_some, apEn_tup, dEnum_a, sFrz_a, frzs_nil, frzs_cons, frzI_o, frzI_v, frzI_n, frzI_s, frz1_s, frzAll_nil, frzAll_o, frzAll_v, frzAll_n, peekT_a, apPk_int, apPk_bl, apPk_str, apPk_non, peekF_a, dCall_a, toO_o, dCallO_a, dMake_a, Wd_v, Wd_o, dSl_a, apSl_some, oNone_a, oSome_a, apO_some, add_ii, sub_ii, lt_ii, le_ii, gt_ii, ge_ii, eq_ii, ne_ii, neg_i, not_b, bl_b, tru_b, tru_i, tru_l, tru_t, tru_n, len_l, len_t, len_scr, abs_i, int_i, list_l, list_t, tuple_l, tuple_t, min_ii, max_ii, rev_l, items_l, items_t, iL_len, run_a, outW_rt, outW_nx, List.map_cons, List.map_nil, List.replicate, List.append_nil, List.cons_append, List.nil_append, List.set_cons_zero, List.set_cons_succ, Option.map_some, Int.reduceAdd, Int.reduceMul, Int.reduceSub, Int.reduceNeg, beq_self_eq_true, Bool.or_false, Bool.false_or, Bool.true_or, Bool.or_true, Bool.and_false, Bool.false_and, Bool.true_and, Bool.and_true, Zc.isi_ii, Zc.isi_ib, Zc.isi_tt, Zc.isi_ll, Zc.rowsT_len, Zc.rowsL_len, Zc.is_integer_call, Zc.ix_p0, Zc.ix_p1, apR1_any, Int.toNat_natCast, apR2_some, mod_ii, fdiv_ii, mul_small, apApp_some, ix_at, ix_atT, ix_atI, ix_atIT, ix_atR, ix_atRT, List.length_map, List.length_append, List.length_range, List.length_set, Option.map_none, Option.map_map, decide_true, decide_false, peekO_a, apPkO_i, frz_wo, frz_wv, frz_kk, wipeG_nil, wipeG_cons, orB_s, orB_t, orB_f, andB_s, andB_t, andB_f, orV_s, orV_t, orV_f, andV_s, andV_t, andV_f, apOr_b, apAnd_b, apOrV_b, apAndV_b, apCh_b, Zc.cut_from, Zc.cut_to, in_l, in_t, in_pr, eq_op_op, eq_op_pr, eq_pr_op, eq_pr_pr, ne_op_op, ne_op_pr, ne_pr_op, ne_pr_pr, isnt_op, is_op, pr_0, pr_1, st_0, st_1, inP_pr, ninP_pr, nin_l, isi_prt, len_pr, op_some, prD_eq, ix_lit2, ix_lit3, ix_lit4, ix_lit5, ix_lit6, ix_lit7, ix_lit8, ix_lit9, ix_lit10, ix_lit11, ix_lit12, ix_lit13, ix_lit14, ix_lit15, setI_i, setI_p, setI_o, setI_n, snoc_i, snoc_r, snoc_p, snoc_n, snoc_o, snoc_pp, snoc_s, eq_ol, ne_ol, eq_pl, ne_pl, eq_sl, ne_sl, eq_il, ne_il, eq_rl, ne_rl, eq_il1, isi_bb, eq_bb, ne_bb, eq_self, lit, dM1_a, apM1_S, dM0_a, apM0_S, Bool.not_true, Bool.not_false, is_tn, is_nn, is_ln, dTxt_a, apTxt_S, Int.reduceBEq, ca, cz, c0, c9, cComma, cEq, cCol, cSl, cSemi, cSp, dZip_a, apZip_l, is_num1, List.isEmpty_nil, List.isEmpty_cons, Bool.false_eq_true, reduceIte, Option.isNone_none, Option.isNone_some, in_alones, in_nameds, get_num, ix4_0, ix4_1, ix4_2, ix4_3])
local macro_rules | `(tactic| walk_at "zf") => `(tactic| first | (walk_at "zz"; done) | (walk_at "zz"; rfl) | rfl)
local macro_rules | `(tactic| walk_at "lc") => `(tactic| ((case hf => rfl); (case hi => first | (walk_at "zz"; done) | (walk_at "zz"; rfl) | rfl); (case hl => walk_at "zd"); (case h => (intro a ha; refine ⟨_, dName_ok rfl, ?_, fun hT => ?_⟩ <;> walk_at "zz" <;> rfl))))
local macro_rules | `(tactic| walk_at "lm") => `(tactic| ((case hf => rfl); (case hi => first | (walk_at "zz"; done) | (walk_at "zz"; rfl) | rfl); (case hl => walk_at "zd"); (case h => (intro a ha; refine ⟨_, dName_ok rfl, ?_⟩; walk_at "zz"; rfl))))
theorem dig_mem (c : Nat) : decide (c ∈ codes "0123456789") = dig c := by
  have h : codes "0123456789" = [48, 49, 50, 51, 52, 53, 54, 55, 56, 57] := by decide
  rw [h]
  by_cases hc : 48 ≤ c ∧ c ≤ 57
  · have : c = 48 ∨ c = 49 ∨ c = 50 ∨ c = 51 ∨ c = 52 ∨ c = 53 ∨ c = 54 ∨ c = 55 ∨ c = 56 ∨ c = 57 := by omega
    rcases this with rfl | rfl | rfl | rfl | rfl | rfl | rfl | rfl | rfl | rfl <;> rfl
  · have e : dig c = false := by
      unfold dig
      rw [Bool.and_eq_false_iff, decide_eq_false_iff_not, decide_eq_false_iff_not]
      omega
    rw [e]
    refine decide_eq_false fun z => ?_
    simp only [List.mem_cons, List.not_mem_nil, or_false] at z
    omega
def intO (a : L) : D := if isNum a = true then .int (val a) else .non
theorem law_integer_spec {a : L} (ha : asc a = true) (hl : a.length ≤ 640) : g_law_integer [dS a] = some (.v (intO a)) := by
  unfold g_law_integer t_law_integer
  walk_at "zz"
  rw [show codes "" = [] from rfl, eq_S ha (by decide)]
  by_cases h0 : a = []
  · subst h0
    rw [decide_eq_true rfl]
    walk_at "zz"
    rfl
  rw [decide_eq_false h0]
  walk_at "zz"
  rw [len_S (by omega)]
  obtain ⟨x, r, rfl⟩ : ∃ x r, a = x :: r := by
    cases a with
    | nil => exact absurd rfl h0
    | cons x r => exact ⟨x, r, rfl⟩
  have hx : asc [x] = true := List.all_eq_true.mpr fun c m => by rw [List.mem_singleton.mp m]; exact decide_eq_true (asc_mem ha List.mem_cons_self)
  have eN : isNum (x :: r) = ((x :: r).all dig && !(decide (0 < r.length) && decide (x = 48))) := by
    unfold isNum
    show (true && (x :: r).all dig && (decide (x :: r = [48]) || !decide ([x] = [48]))) = _
    rw [Bool.true_and]
    congr 1
    cases r with
    | nil => by_cases h : x = 48 <;> simp [h]
    | cons y r => by_cases h : x = 48 <;> simp [h]
  have loop : outW (apSeq (loopD (dName 1) (sIf (tDt blD (d2 (onT ninTf) (dVar 1) (dC (dS (codes "0123456789"))))) (sRet (dC D.non)) sNext) ((x :: r).map fun c => dS [c]) [some (.v (dS (x :: r))), none]) (sRet (dN intSD (aCons (dVar 0) aNil)))) = some (.v (if (x :: r).all dig = true then (if isNum (x :: r) = true then .int (val (x :: r)) else .non) else .non)) ∨ (0 < r.length ∧ x = 48) := by
    by_cases hz : 0 < r.length ∧ x = 48
    · exact .inr hz
    left
    have hnz : (decide (0 < r.length) && decide (x = 48)) = false := by
      rw [Bool.and_eq_false_iff, decide_eq_false_iff_not, decide_eq_false_iff_not]
      by_cases h1 : 0 < r.length
      · exact .inr fun h2 => hz ⟨h1, h2⟩
      · exact .inl h1
    rw [hnz] at eN
    rw [Bool.not_false, Bool.and_true] at eN
    rw [eN]
    generalize hl' : x :: r = l at ha hl ⊢
    refine find_then (C := fun o => outW o = _) (fun c : Nat => dS [c]) (fun g => ∃ k1 : Option Wd, g = [some (.v (dS l)), k1]) (fun c => if dig c = true then none else some (.v .non)) l ⟨none, rfl⟩ ?_ ?_ ?_
    · rintro c hc g ⟨k1, rfl⟩
      refine ⟨_, dName_ok rfl, ?_⟩
      show FS (sIf _ _ _ [some (.v (dS l)), some (.v (dS [c]))]) _ _
      walk_at "zz"
      rw [nin_S, dig_mem]
      cases hd : dig c
      · walk_at "zz"
        exact fs_rt rfl
      · walk_at "zz"
        exact fs_nx rfl ⟨_, rfl⟩
    · rintro g hn ⟨k1, rfl⟩
      have hall : l.all dig = true := List.all_eq_true.mpr fun c m => by
        have := List.findSome?_eq_none_iff.mp hn c m
        cases hd : dig c
        · rw [hd] at this; cases this
        · rfl
      walk_at "zz"
      rw [hall, if_pos rfl, if_pos rfl]
      rw [intS_val (by rw [← hl', eN, hl']; exact hall) hl]
      walk_at "zz"
    · intro w hw
      obtain ⟨c, hc, hcw⟩ := List.exists_of_findSome?_eq_some hw
      have hd : dig c = false := by
        cases hd : dig c
        · rfl
        · rw [hd] at hcw; cases hcw
      have hall : l.all dig = false := List.all_eq_false.mpr ⟨c, hc, by rw [hd]; decide⟩
      rw [hd] at hcw
      cases hcw
      rw [hall]
      rfl
  have hix : ixD (dS (x :: r)) (.int 0) = some (dS [x]) := by
    have := ixS (a := x :: r) (i := 0) (by omega) (by decide) (by rw [List.length_cons]; omega)
    exact this
  have e48 : decide ([x] = [48]) = decide (x = 48) := by by_cases h : x = 48 <;> simp [h]
  walk_at "zz"
  by_cases h1 : 0 < r.length
  · rw [hix, decide_eq_true (show (1 : Int) < ((r.length + 1 : Nat) : Int) by omega)]
    walk_at "zz"
    rw [eq_S hx (by decide), e48]
    by_cases h2 : x = 48
    · rw [decide_eq_true h2]
      walk_at "zz"
      unfold intO
      rw [eN, decide_eq_true h1, decide_eq_true h2]
      simp
    · rw [decide_eq_false h2]
      walk_at "zz"
      rcases loop with q | q
      · refine q.trans ?_
        unfold intO
        cases hall : (x :: r).all dig
        · rw [eN, hall]; rfl
        · rfl
      · exact absurd q.2 h2
  · rw [hix, decide_eq_false (show ¬ (1 : Int) < ((r.length + 1 : Nat) : Int) by omega)]
    walk_at "zz"
    rcases loop with q | q
    · refine q.trans ?_
      unfold intO
      cases hall : (x :: r).all dig
      · rw [eN, hall]; rfl
      · rfl
    · exact absurd q.1 h1
end Y
end

section
set_option Elab.async false
set_option linter.all false
set_option maxRecDepth 100000
set_option maxHeartbeats 4000000
/-! The law's names. -/
namespace Y
open L2 Zk Zc Zj Zd Rk
open PySem hiding wordsOf Tok
local macro_rules | `(tactic| walk_at "zs") => `(tactic| simp only [beq_self_eq_true, Bool.or_false, Bool.false_or, Bool.true_or, Bool.or_true, Bool.and_false, Bool.false_and, Bool.true_and, Bool.and_true, Zc.isi_ii, Zc.isi_ib, Zc.isi_tt, Zc.isi_ll, Zc.rowsT_len, Zc.rowsL_len, Zc.is_integer_call, Zc.ix_p0, Zc.ix_p1, dgTup2_a, dgTup3_a, Bool.not_true, Bool.not_false, mul_lz, List.flatten_cons, List.flatten_nil, Int.reduceToNat, add_ll, pow10_12, pow10_18, pow10_39, pow10_41, pow10_59, pow10_60, mkLst_some, mkTup_some, List.length_cons, List.length_nil, Nat.zero_le, Nat.reduceAdd, Nat.reduceLeDiff, call1, callO1, call2, callO2, call3, callO3, call4, callO4, call5, callO5, call6, callO6, ap1_some, ap2_some, apN_some, apC_some, d1_a, d2_a, dN_a, aNil_a, aCons_a, dC_a, dVar_z, dVar_s, tDt_a, apAnd_t, apAnd_f, apOr_t, apOr_f, dAndT_a, dOrT_a, apNot_some, dNotT_a, apAndV_t, apAndV_f, dAndV_a, apOrV_t, apOrV_f, dOrV_a, apIf_t, apIf_f, dIf_a, apCh_t, apCh_f, apChain_some, dChain_a, apSeq_nx, apSeq_rt, apSeq_ct, apSeq_bk, sSeq_a, apIfS_t, apIfS_f, sIf_a, sNext_a, sCont_a, sBreak_a, apRet_some, sRet_a, apRetO_some, sRetO_a, sRetN_a, getO_z, getO_s, apRetV_some, sRetV_a, ltB_z, ltB_s, okSlot_s, apAsg_some, sAsg_a, dName_ok, apG_some, dgCons_a, dgNil_a, apAsgO_some, sAsgO_a, sApp_a, sSetI_a, apFor_some, sFor_a, dItems_a, dRng1_a, dRng2_a, apEn_some, apEn_tup, dEnum_a, sFrz_a, frzs_nil, frzs_cons, frzI_o, frzI_v, frzI_n, frzI_s, frz1_s, frzAll_nil, frzAll_o, frzAll_v, frzAll_n, peekT_a, apPk_int, apPk_bl, apPk_str, apPk_non, peekF_a, dCall_a, toO_o, dCallO_a, dMake_a, Wd_v, Wd_o, dSl_a, apSl_some, oNone_a, oSome_a, apO_some, add_ii, sub_ii, lt_ii, le_ii, gt_ii, ge_ii, eq_ii, ne_ii, neg_i, not_b, bl_b, tru_b, tru_i, tru_l, tru_t, tru_n, len_l, len_t, len_scr, abs_i, int_i, list_l, list_t, tuple_l, tuple_t, min_ii, max_ii, rev_l, items_l, items_t, iL_len, run_a, outW_rt, outW_nx, List.map_cons, List.map_nil, List.replicate, List.append_nil, List.cons_append, List.nil_append, List.set_cons_zero, List.set_cons_succ, Option.map_some])
local macro_rules | `(tactic| walk_at "zd") => `(tactic| first | ((with_reducible show okSlot _ _ = true); simp only [okSlot_s, ltB_z, ltB_s]; done) | omega | assumption | decide | (simp only [List.length_map, List.length_append, List.length_cons, List.length_nil, List.length_range, List.length_set, List.length_reverse, iL_len, Zc.rowsT_len, Zc.rowsL_len] at *; omega))
local macro_rules | `(tactic| walk_at "zz") => `(tactic| simp (disch := walk_at "zd") only [dgTup2_a, dgTup3_a, Bool.not_true, Bool.not_false, mul_lz, List.flatten_cons, List.flatten_nil, Int.reduceToNat, add_ll, pow10_12, pow10_18, pow10_39, pow10_41, pow10_59, pow10_60, mkLst_some, mkTup_some, List.length_cons, List.length_nil, Nat.zero_le, Nat.reduceAdd, Nat.reduceLeDiff, call1, callO1, call2, callO2, call3, callO3, call4, callO4, call5, callO5, call6, callO6, ap1_some, ap2_some, apN_some, apC_some, d1_a, d2_a, dN_a, aNil_a, aCons_a, dC_a, dVar_z, dVar_s, tDt_a, apAnd_t, apAnd_f, apOr_t, apOr_f, dAndT_a, dOrT_a, apNot_some, dNotT_a, apAndV_t, apAndV_f, dAndV_a, apOrV_t, apOrV_f, dOrV_a, apIf_t, apIf_f, dIf_a, apCh_t, apCh_f, apChain_some, dChain_a, apSeq_nx, apSeq_rt, apSeq_ct, apSeq_bk, sSeq_a, apIfS_t, apIfS_f, sIf_a, sNext_a, sCont_a, sBreak_a, apRet_some, sRet_a, apRetO_some, sRetO_a, sRetN_a, getO_z, getO_s, apRetV_some, sRetV_a, ltB_z, ltB_s, okSlot_s, apAsg_some, sAsg_a, dName_ok, apG_some, dgCons_a, dgNil_a, apAsgO_some, sAsgO_a, sApp_a, sSetI_a, apFor_some, sFor_a, dItems_a, dRng1_a, dRng2_a, apEn_some, apEn_tup, dEnum_a, sFrz_a, frzs_nil, frzs_cons, frzI_o, frzI_v, frzI_n, frzI_s, frz1_s, frzAll_nil, frzAll_o, frzAll_v, frzAll_n, peekT_a, apPk_int, apPk_bl, apPk_str, apPk_non, peekF_a, dCall_a, toO_o, dCallO_a, dMake_a, Wd_v, Wd_o, dSl_a, apSl_some, oNone_a, oSome_a, apO_some, add_ii, sub_ii, lt_ii, le_ii, gt_ii, ge_ii, eq_ii, ne_ii, neg_i, not_b, bl_b, tru_b, tru_i, tru_l, tru_t, tru_n, len_l, len_t, len_scr, abs_i, int_i, list_l, list_t, tuple_l, tuple_t, min_ii, max_ii, rev_l, items_l, items_t, iL_len, run_a, outW_rt, outW_nx, List.map_cons, List.map_nil, List.replicate, List.append_nil, List.cons_append, List.nil_append, List.set_cons_zero, List.set_cons_succ, Option.map_some, Int.reduceAdd, Int.reduceMul, Int.reduceSub, Int.reduceNeg, beq_self_eq_true, Bool.or_false, Bool.false_or, Bool.true_or, Bool.or_true, Bool.and_false, Bool.false_and, Bool.true_and, Bool.and_true, Zc.isi_ii, Zc.isi_ib, Zc.isi_tt, Zc.isi_ll, Zc.rowsT_len, Zc.rowsL_len, Zc.is_integer_call, Zc.ix_p0, Zc.ix_p1, apR1_any, Int.toNat_natCast, apR2_some, mod_ii, fdiv_ii, mul_small, apApp_some, ix_at, ix_atT, ix_atI, ix_atIT, ix_atR, ix_atRT, List.length_map, List.length_append, List.length_range, List.length_set, Option.map_none, Option.map_map, decide_true, decide_false, peekO_a, apPkO_i, frz_wo, frz_wv, frz_kk, wipeG_nil, wipeG_cons, orB_s, orB_t, orB_f, andB_s, andB_t, andB_f, orV_s, orV_t, orV_f, andV_s, andV_t, andV_f, apOr_b, apAnd_b, apOrV_b, apAndV_b, apCh_b, Zc.cut_from, Zc.cut_to, in_l, in_t, in_pr, eq_op_op, eq_op_pr, eq_pr_op, eq_pr_pr, ne_op_op, ne_op_pr, ne_pr_op, ne_pr_pr, isnt_op, is_op, pr_0, pr_1, st_0, st_1, inP_pr, ninP_pr, nin_l, isi_prt, len_pr, op_some, prD_eq, ix_lit2, ix_lit3, ix_lit4, ix_lit5, ix_lit6, ix_lit7, ix_lit8, ix_lit9, ix_lit10, ix_lit11, ix_lit12, ix_lit13, ix_lit14, ix_lit15, setI_i, setI_p, setI_o, setI_n, snoc_i, snoc_r, snoc_p, snoc_n, snoc_o, snoc_pp, snoc_s, eq_ol, ne_ol, eq_pl, ne_pl, eq_sl, ne_sl, eq_il, ne_il, eq_rl, ne_rl, eq_il1, isi_bb, eq_bb, ne_bb, eq_self, lit, dM1_a, apM1_S, dM0_a, apM0_S, Bool.not_true, Bool.not_false, is_tn, is_nn, is_ln, dTxt_a, apTxt_S, Int.reduceBEq, ca, cz, c0, c9, cComma, cEq, cCol, cSl, cSemi, cSp, dZip_a, apZip_l, is_num1, List.isEmpty_nil, List.isEmpty_cons, Bool.false_eq_true, reduceIte, Option.isNone_none, Option.isNone_some, in_alones, in_nameds, get_num, ix4_0, ix4_1, ix4_2, ix4_3])
local macro_rules | `(tactic| walk_at "zf") => `(tactic| first | (walk_at "zz"; done) | (walk_at "zz"; rfl) | rfl)
local macro_rules | `(tactic| walk_at "lc") => `(tactic| ((case hf => rfl); (case hi => first | (walk_at "zz"; done) | (walk_at "zz"; rfl) | rfl); (case hl => walk_at "zd"); (case h => (intro a ha; refine ⟨_, dName_ok rfl, ?_, fun hT => ?_⟩ <;> walk_at "zz" <;> rfl))))
local macro_rules | `(tactic| walk_at "lm") => `(tactic| ((case hf => rfl); (case hi => first | (walk_at "zz"; done) | (walk_at "zz"; rfl) | rfl); (case hl => walk_at "zd"); (case h => (intro a ha; refine ⟨_, dName_ok rfl, ?_⟩; walk_at "zz"; rfl))))
theorem nch_mem (c : Nat) : decide (c ∈ codes "abcdefghijklmnopqrstuvwxyz0123456789") = nch c := by
  have h : codes "abcdefghijklmnopqrstuvwxyz0123456789" = (List.range 26).map (97 + ·) ++ (List.range 10).map (48 + ·) := by decide
  rw [h]
  by_cases hc : (97 ≤ c ∧ c ≤ 122) ∨ (48 ≤ c ∧ c ≤ 57)
  · have e : nch c = true := by
      unfold nch
      simp only [Bool.or_eq_true, Bool.and_eq_true, decide_eq_true_eq]
      exact hc
    rw [e]
    refine decide_eq_true ?_
    rcases hc with z | z
    · exact List.mem_append_left _ (List.mem_map.mpr ⟨c - 97, List.mem_range.mpr (by omega), by omega⟩)
    · exact List.mem_append_right _ (List.mem_map.mpr ⟨c - 48, List.mem_range.mpr (by omega), by omega⟩)
  · have e : nch c = false := by
      cases q : nch c
      · rfl
      · unfold nch at q
        simp only [Bool.or_eq_true, Bool.and_eq_true, decide_eq_true_eq] at q
        exact absurd q hc
    rw [e]
    refine decide_eq_false fun z => ?_
    rcases List.mem_append.mp z with z | z
    · obtain ⟨k, hk, rfl⟩ := List.mem_map.mp z
      have := List.mem_range.mp hk
      omega
    · obtain ⟨k, hk, rfl⟩ := List.mem_map.mp z
      have := List.mem_range.mp hk
      omega
theorem law_is_name_spec {a : L} (hl : a.length ≤ 640) : g_law_is_name [dS a] = some (.v (.bl (isName a))) := by
  unfold g_law_is_name t_law_is_name
  walk_at "zz"
  rw [len_S (by omega)]
  walk_at "zz"
  by_cases h1 : a.length < 1 ∨ 12 < a.length
  · have e : isName a = false := by
      unfold isName
      rw [Bool.and_eq_false_iff, Bool.and_eq_false_iff, decide_eq_false_iff_not, decide_eq_false_iff_not]
      omega
    rw [e]
    have hb : (decide (((a.length : Nat) : Int) < 1) || decide ((12 : Int) < ((a.length : Nat) : Int))) = true := by
      rw [Bool.or_eq_true, decide_eq_true_eq, decide_eq_true_eq]; omega
    rw [len_S (by omega)]
    walk_at "zz"
    rw [hb]
    walk_at "zz"
  · have e : isName a = a.all nch := by
      unfold isName
      rw [decide_eq_true (by omega), decide_eq_true (by omega)]
      rfl
    rw [e]
    have hb : (decide (((a.length : Nat) : Int) < 1) || decide ((12 : Int) < ((a.length : Nat) : Int))) = false := by
      rw [Bool.or_eq_false_iff, decide_eq_false_iff_not, decide_eq_false_iff_not]; omega
    rw [len_S (by omega)]
    walk_at "zz"
    rw [hb]
    walk_at "zz"
    refine find_then (C := fun o => outW o = _) (fun c : Nat => dS [c]) (fun g => ∃ k1 : Option Wd, g = [some (.v (dS a)), k1]) (fun c => if nch c = true then none else some (.v (.bl false))) a ⟨none, rfl⟩ ?_ ?_ ?_
    · rintro c hc g ⟨k1, rfl⟩
      refine ⟨_, dName_ok rfl, ?_⟩
      show FS (sIf _ _ _ [some (.v (dS a)), some (.v (dS [c]))]) _ _
      walk_at "zz"
      rw [nin_S, nch_mem]
      cases hd : nch c
      · walk_at "zz"
        exact fs_rt rfl
      · walk_at "zz"
        exact fs_nx rfl ⟨_, rfl⟩
    · rintro g hn ⟨k1, rfl⟩
      have hall : a.all nch = true := List.all_eq_true.mpr fun c m => by
        have := List.findSome?_eq_none_iff.mp hn c m
        cases hd : nch c
        · rw [hd] at this; cases this
        · rfl
      walk_at "zz"
      rw [hall]
    · intro w hw
      obtain ⟨c, hc, hcw⟩ := List.exists_of_findSome?_eq_some hw
      have hd : nch c = false := by
        cases hd : nch c
        · rfl
        · rw [hd] at hcw; cases hcw
      have hall : a.all nch = false := List.all_eq_false.mpr ⟨c, hc, by rw [hd]; decide⟩
      rw [hd] at hcw
      cases hcw
      rw [hall]
      rfl
end Y
end

section
set_option Elab.async false
set_option linter.all false
set_option maxRecDepth 100000
set_option maxHeartbeats 4000000
/-! s.find(c), c one sign. -/
namespace Rk
open L2 Zk Zc Zj Zd
open PySem hiding wordsOf
def fndC (c : Nat) (a : L) : Int := if (cut c a).2.isSome = true then ((cut c a).1.length : Nat) else -1
theorem at_S {a : L} {c i : Nat} : StrLaws.At (SX.S a) (SX.S [c]) (SX.S a).length i ↔ a[i]? = some c := by
  have h := TL.at_iff (x := SX.S a) (y := SX.S [c]) (by show ([c] : L) ≠ []; simp) i
  rw [h]
  show ((a.drop i).take 1 == [c]) = true ↔ _
  rw [beq_iff_eq]
  cases hd : a.drop i with
  | nil =>
    have : a.length ≤ i := List.drop_eq_nil_iff.mp hd
    rw [List.getElem?_eq_none this]
    simp
  | cons x r =>
    have e : a[i]? = some x := by
      have := List.getElem?_drop (xs := a) (i := i) (j := 0)
      rw [hd] at this
      simpa using this.symm
    rw [e]
    show [x] = [c] ↔ _
    simp
theorem find_S {c : Nat} {a : L} : findD (SX.S a) (dS [c]) = some (.int (fndC c a)) := by
  show some (D.int (Txt.find (SX.S a) (SX.S [c]))) = _
  congr 2
  unfold fndC
  rcases PyProof.Rows.find_whole (SX.S a) (SX.S [c]) with ⟨h1, h2⟩ | ⟨i, h1, h2, h3⟩
  · rw [h1]
    rcases cut_or c a with ⟨p, q, rfl, h5, h6⟩ | ⟨h5, h6⟩
    · exact absurd (at_S.mpr (by simp)) (h2 p.length)
    · rw [h6]; rfl
  · rw [h1]
    have h2 := at_S.mp h2
    rcases cut_or c a with ⟨p, q, rfl, h5, h6⟩ | ⟨h5, h6⟩
    · rw [h6]
      show (i : Int) = (p.length : Nat)
      have : i = p.length := by
        rcases Nat.lt_trichotomy i p.length with z | z | z
        · rw [List.getElem?_append_left z] at h2
          exact absurd (List.mem_of_getElem? h2) h5
        · exact z
        · exact absurd (at_S.mpr (by simp)) (h3 p.length z)
      omega
    · exact absurd (List.mem_of_getElem? h2) h5
end Rk
end

section
set_option Elab.async false
set_option linter.all false
set_option maxRecDepth 100000
set_option maxHeartbeats 4000000
/-! The law's reading of a put. -/
namespace Y
open L2 Zk Zc Zj Zd Rk
open PySem hiding wordsOf Tok
theorem neg_lt (n : Nat) : decide ((n : Int) < 0) = false := decide_eq_false (by omega)
local macro_rules | `(tactic| walk_at "zs") => `(tactic| simp only [beq_self_eq_true, Bool.or_false, Bool.false_or, Bool.true_or, Bool.or_true, Bool.and_false, Bool.false_and, Bool.true_and, Bool.and_true, Zc.isi_ii, Zc.isi_ib, Zc.isi_tt, Zc.isi_ll, Zc.rowsT_len, Zc.rowsL_len, Zc.is_integer_call, Zc.ix_p0, Zc.ix_p1, dgTup2_a, dgTup3_a, Bool.not_true, Bool.not_false, mul_lz, List.flatten_cons, List.flatten_nil, Int.reduceToNat, add_ll, pow10_12, pow10_18, pow10_39, pow10_41, pow10_59, pow10_60, mkLst_some, mkTup_some, List.length_cons, List.length_nil, Nat.zero_le, Nat.reduceAdd, Nat.reduceLeDiff, call1, callO1, call2, callO2, call3, callO3, call4, callO4, call5, callO5, call6, callO6, ap1_some, ap2_some, apN_some, apC_some, d1_a, d2_a, dN_a, aNil_a, aCons_a, dC_a, dVar_z, dVar_s, tDt_a, apAnd_t, apAnd_f, apOr_t, apOr_f, dAndT_a, dOrT_a, apNot_some, dNotT_a, apAndV_t, apAndV_f, dAndV_a, apOrV_t, apOrV_f, dOrV_a, apIf_t, apIf_f, dIf_a, apCh_t, apCh_f, apChain_some, dChain_a, apSeq_nx, apSeq_rt, apSeq_ct, apSeq_bk, sSeq_a, apIfS_t, apIfS_f, sIf_a, sNext_a, sCont_a, sBreak_a, apRet_some, sRet_a, apRetO_some, sRetO_a, sRetN_a, getO_z, getO_s, apRetV_some, sRetV_a, ltB_z, ltB_s, okSlot_s, apAsg_some, sAsg_a, dName_ok, apG_some, dgCons_a, dgNil_a, apAsgO_some, sAsgO_a, sApp_a, sSetI_a, apFor_some, sFor_a, dItems_a, dRng1_a, dRng2_a, apEn_some, apEn_tup, dEnum_a, sFrz_a, frzs_nil, frzs_cons, frzI_o, frzI_v, frzI_n, frzI_s, frz1_s, frzAll_nil, frzAll_o, frzAll_v, frzAll_n, peekT_a, apPk_int, apPk_bl, apPk_str, apPk_non, peekF_a, dCall_a, toO_o, dCallO_a, dMake_a, Wd_v, Wd_o, dSl_a, apSl_some, oNone_a, oSome_a, apO_some, add_ii, sub_ii, lt_ii, le_ii, gt_ii, ge_ii, eq_ii, ne_ii, neg_i, not_b, bl_b, tru_b, tru_i, tru_l, tru_t, tru_n, len_l, len_t, len_scr, abs_i, int_i, list_l, list_t, tuple_l, tuple_t, min_ii, max_ii, rev_l, items_l, items_t, iL_len, run_a, outW_rt, outW_nx, List.map_cons, List.map_nil, List.replicate, List.append_nil, List.cons_append, List.nil_append, List.set_cons_zero, List.set_cons_succ, Option.map_some])
local macro_rules | `(tactic| walk_at "zd") => `(tactic| first | ((with_reducible show okSlot _ _ = true); simp only [okSlot_s, ltB_z, ltB_s]; done) | omega | assumption | decide | (simp only [List.length_map, List.length_append, List.length_cons, List.length_nil, List.length_range, List.length_set, List.length_reverse, iL_len, Zc.rowsT_len, Zc.rowsL_len] at *; omega))
local macro_rules | `(tactic| walk_at "zz") => `(tactic| simp (disch := walk_at "zd") only [dgTup2_a, dgTup3_a, Bool.not_true, Bool.not_false, mul_lz, List.flatten_cons, List.flatten_nil, Int.reduceToNat, add_ll, pow10_12, pow10_18, pow10_39, pow10_41, pow10_59, pow10_60, mkLst_some, mkTup_some, List.length_cons, List.length_nil, Nat.zero_le, Nat.reduceAdd, Nat.reduceLeDiff, call1, callO1, call2, callO2, call3, callO3, call4, callO4, call5, callO5, call6, callO6, ap1_some, ap2_some, apN_some, apC_some, d1_a, d2_a, dN_a, aNil_a, aCons_a, dC_a, dVar_z, dVar_s, tDt_a, apAnd_t, apAnd_f, apOr_t, apOr_f, dAndT_a, dOrT_a, apNot_some, dNotT_a, apAndV_t, apAndV_f, dAndV_a, apOrV_t, apOrV_f, dOrV_a, apIf_t, apIf_f, dIf_a, apCh_t, apCh_f, apChain_some, dChain_a, apSeq_nx, apSeq_rt, apSeq_ct, apSeq_bk, sSeq_a, apIfS_t, apIfS_f, sIf_a, sNext_a, sCont_a, sBreak_a, apRet_some, sRet_a, apRetO_some, sRetO_a, sRetN_a, getO_z, getO_s, apRetV_some, sRetV_a, ltB_z, ltB_s, okSlot_s, apAsg_some, sAsg_a, dName_ok, apG_some, dgCons_a, dgNil_a, apAsgO_some, sAsgO_a, sApp_a, sSetI_a, apFor_some, sFor_a, dItems_a, dRng1_a, dRng2_a, apEn_some, apEn_tup, dEnum_a, sFrz_a, frzs_nil, frzs_cons, frzI_o, frzI_v, frzI_n, frzI_s, frz1_s, frzAll_nil, frzAll_o, frzAll_v, frzAll_n, peekT_a, apPk_int, apPk_bl, apPk_str, apPk_non, peekF_a, dCall_a, toO_o, dCallO_a, dMake_a, Wd_v, Wd_o, dSl_a, apSl_some, oNone_a, oSome_a, apO_some, add_ii, sub_ii, lt_ii, le_ii, gt_ii, ge_ii, eq_ii, ne_ii, neg_i, not_b, bl_b, tru_b, tru_i, tru_l, tru_t, tru_n, len_l, len_t, len_scr, abs_i, int_i, list_l, list_t, tuple_l, tuple_t, min_ii, max_ii, rev_l, items_l, items_t, iL_len, run_a, outW_rt, outW_nx, List.map_cons, List.map_nil, List.replicate, List.append_nil, List.cons_append, List.nil_append, List.set_cons_zero, List.set_cons_succ, Option.map_some, Int.reduceAdd, Int.reduceMul, Int.reduceSub, Int.reduceNeg, beq_self_eq_true, Bool.or_false, Bool.false_or, Bool.true_or, Bool.or_true, Bool.and_false, Bool.false_and, Bool.true_and, Bool.and_true, Zc.isi_ii, Zc.isi_ib, Zc.isi_tt, Zc.isi_ll, Zc.rowsT_len, Zc.rowsL_len, Zc.is_integer_call, Zc.ix_p0, Zc.ix_p1, apR1_any, Int.toNat_natCast, apR2_some, mod_ii, fdiv_ii, mul_small, apApp_some, ix_at, ix_atT, ix_atI, ix_atIT, ix_atR, ix_atRT, List.length_map, List.length_append, List.length_range, List.length_set, Option.map_none, Option.map_map, decide_true, decide_false, peekO_a, apPkO_i, frz_wo, frz_wv, frz_kk, wipeG_nil, wipeG_cons, orB_s, orB_t, orB_f, andB_s, andB_t, andB_f, orV_s, orV_t, orV_f, andV_s, andV_t, andV_f, apOr_b, apAnd_b, apOrV_b, apAndV_b, apCh_b, Zc.cut_from, Zc.cut_to, in_l, in_t, in_pr, eq_op_op, eq_op_pr, eq_pr_op, eq_pr_pr, ne_op_op, ne_op_pr, ne_pr_op, ne_pr_pr, isnt_op, is_op, pr_0, pr_1, st_0, st_1, inP_pr, ninP_pr, nin_l, isi_prt, len_pr, op_some, prD_eq, ix_lit2, ix_lit3, ix_lit4, ix_lit5, ix_lit6, ix_lit7, ix_lit8, ix_lit9, ix_lit10, ix_lit11, ix_lit12, ix_lit13, ix_lit14, ix_lit15, setI_i, setI_p, setI_o, setI_n, snoc_i, snoc_r, snoc_p, snoc_n, snoc_o, snoc_pp, snoc_s, eq_ol, ne_ol, eq_pl, ne_pl, eq_sl, ne_sl, eq_il, ne_il, eq_rl, ne_rl, eq_il1, isi_bb, eq_bb, ne_bb, eq_self, lit, dM1_a, apM1_S, dM0_a, apM0_S, Bool.not_true, Bool.not_false, is_tn, is_nn, is_ln, dTxt_a, apTxt_S, Int.reduceBEq, ca, cz, c0, c9, cComma, cEq, cCol, cSl, cSemi, cSp, dZip_a, apZip_l, is_num1, List.isEmpty_nil, List.isEmpty_cons, Bool.false_eq_true, reduceIte, Option.isNone_none, Option.isNone_some, in_alones, in_nameds, get_num, ix4_0, ix4_1, ix4_2, ix4_3, dSlS_w, apSl_s])
local macro_rules | `(tactic| walk_at "zf") => `(tactic| first | (walk_at "zz"; done) | (walk_at "zz"; rfl) | rfl)
local macro_rules | `(tactic| walk_at "lc") => `(tactic| ((case hf => rfl); (case hi => first | (walk_at "zz"; done) | (walk_at "zz"; rfl) | rfl); (case hl => walk_at "zd"); (case h => (intro a ha; refine ⟨_, dName_ok rfl, ?_, fun hT => ?_⟩ <;> walk_at "zz" <;> rfl))))
local macro_rules | `(tactic| walk_at "lm") => `(tactic| ((case hf => rfl); (case hi => first | (walk_at "zz"; done) | (walk_at "zz"; rfl) | rfl); (case hl => walk_at "zd"); (case h => (intro a ha; refine ⟨_, dName_ok rfl, ?_⟩; walk_at "zz"; rfl))))
theorem in_ints : ∀ ws : List L, inD .non (.lst (ws.map intO)) = some (.bl (!ws.all isNum)) := fun ws => by
  have hf : (ws.map intO).all D.flat4 = true := List.all_eq_true.mpr fun d m => by
    obtain ⟨w, _, rfl⟩ := List.mem_map.mp m
    unfold intO
    split <;> rfl
  have ha : ((ws.map intO).any fun z => eqF z .non) = !ws.all isNum := by
    induction ws with
    | nil => rfl
    | cons w ws ih =>
      rw [List.map_cons, List.any_cons, List.all_cons, ih (by rw [List.map_cons, List.all_cons, Bool.and_eq_true] at hf; exact hf.2)]
      unfold intO
      cases isNum w <;> rfl
  show ((if (D.non.flat4 && (ws.map intO).all D.flat4) = true then some ((ws.map intO).any fun z => eqF z .non) else none).map D.bl) = _
  rw [hf, ha]
  rfl
theorem ints_all {ws : List L} (h : ws.all isNum = true) : ws.map intO = iL (ws.map val) := by
  unfold iL
  rw [List.map_map]
  refine List.map_congr_left fun w m => ?_
  unfold intO
  rw [if_pos (List.all_eq_true.mp h w m)]
  rfl
theorem law_put_reading_spec {a : L} (ha : asc a = true) (hl : a.length ≤ 640) : g_law_put_reading [dS a] = some (.v (oD cmdD (lwPut a))) := by
  unfold g_law_put_reading t_law_put_reading
  walk_at "zz"
  rw [find_S]
  unfold fndC lwPut
  rcases cut_or 58 a with ⟨h, t, rfl, h5, h6⟩ | ⟨h5, h6⟩
  · rw [h6]
    rw [List.length_append, List.length_cons] at hl
    have ah : asc h = true := List.all_eq_true.mpr fun c m => decide_eq_true (asc_mem ha (List.mem_append_left _ m))
    rw [show (if (h, some t).2.isSome = true then (((h, some t).1.length : Nat) : Int) else -1) = ((h.length : Nat) : Int) from rfl]
    walk_at "zz"
    rw [neg_lt]
    walk_at "zz"
    rw [sl_to (by rw [List.length_append, List.length_cons]; omega) (by omega), Int.toNat_natCast, List.take_left]
    walk_at "zz"
    rw [show codes "@" = [64] from rfl, sp_S (by decide) (by omega)]
    have h1 := sp_asc (c := 64) ah
    have h2 := sp_le (c := 64) (b := 640) (a := h) (by omega)
    have h3 := sp_ne (c := 64) h
    have h4 := sp_count (c := 64) h.length h (Nat.le_refl _)
    have hdr : slSD (dS (h ++ 58 :: t)) (some ((h.length : Nat) + 1 : Int)) none = some (dS t) := by
      rw [sl_from (by rw [List.length_append, List.length_cons]; omega) (by omega), show ((h.length : Nat) + 1 : Int).toNat = h.length + 1 by omega, show h ++ 58 :: t = (h ++ [58]) ++ t by simp, List.drop_left' (by simp)]
    generalize sp 64 h = ws at h1 h2 h3 h4 ⊢
    cases ws with
    | nil => exact absurd rfl h3
    | cons n rest =>
      have hn := h2 n List.mem_cons_self
      have hix : ixD (.lst ((n :: rest).map dS)) (.int 0) = some (dS n) := by
        have := at_nat (a := (n :: rest).map dS) (n := 0) (by simp)
        exact this
      rw [List.length_cons] at h4
      have hml : ((n :: rest).map dS).length = rest.length + 1 := by rw [List.length_map, List.length_cons]
      generalize hR : (n :: rest).map dS = R at hix hml ⊢
      walk_at "zz"
      rw [hix]
      walk_at "zz"
      rw [law_is_name_spec hn]
      show _ = some (Wd.v (oD cmdD (if isName n = true ∧ rest.length ≤ 1 then lwPut2 n rest t else none)))
      cases q : isName n
      · walk_at "zz"
        rfl
      walk_at "zz"
      rw [hml]
      by_cases hr : rest.length ≤ 1
      · rw [decide_eq_false (show ¬ (2 : Int) < ((rest.length + 1 : Nat) : Int) by omega)]
        walk_at "zz"
        rw [hml]
        cases rest with
        | nil =>
          rw [show (((([] : List L).length + 1 : Nat) : Int) == 1) = true from rfl]
          walk_at "zz"
          rw [hix, hdr]
          walk_at "zz"
          rfl
        | cons s r2 =>
          have hr2 : r2 = [] := by
            cases r2 with
            | nil => rfl
            | cons => simp at hr
          subst hr2
          have hs := h2 s (by simp)
          have as := h1 s (by simp)
          rw [show (((([s] : List L).length + 1 : Nat) : Int) == 1) = false from rfl]
          walk_at "zz"
          rw [← hR]
          walk_at "zz"
          have hc := sp_count (c := 44) s.length s (Nat.le_refl _)
          have i0 : ixD (.lst [dS n, dS s]) (.int 0) = some (dS n) := rfl
          have i1 : ixD (.lst [dS n, dS s]) (.int 1) = some (dS s) := rfl
          rewrite [dLc_map dS (xs := sp 44 s) (F := intO)]
          case hf => rfl
          case hi =>
            walk_at "zz"
            rw [i1]
            walk_at "zz"
            rw [sp_S (by decide) (by omega)]
            walk_at "zz"
          case hl => omega
          case h =>
            intro w hm
            refine ⟨_, dName_ok rfl, ?_⟩
            walk_at "zz"
            rw [law_integer_spec (sp_asc as w hm) (sp_le hs w hm)]
            walk_at "zz"
          walk_at "zz"
          rw [in_ints]
          cases hall : (sp 44 s).all isNum
          · walk_at "zz"
            show _ = some (Wd.v (oD cmdD ((rdNums s).map fun a => Cmd.put n a t)))
            unfold rdNums
            rw [hall]
            rfl
          · walk_at "zz"
            rw [i0, hdr]
            walk_at "zz"
            show _ = some (Wd.v (oD cmdD ((rdNums s).map fun a => Cmd.put n a t)))
            unfold rdNums
            rw [if_pos hall, ints_all hall]
            rfl
      · rw [decide_eq_true (show (2 : Int) < ((rest.length + 1 : Nat) : Int) by omega)]
        walk_at "zz"
        rw [if_neg (fun z => hr z.2)]
        rfl
  · rw [h6]
    walk_at "zz"
    rfl
end Y
end

section
set_option Elab.async false
set_option linter.all false
set_option maxRecDepth 100000
set_option maxHeartbeats 4000000
/-! The law's reading of a line. -/
namespace Y
open L2 Zk Zc Zj Zd Rk
open PySem hiding wordsOf Tok
theorem cutY_from {α : Type} (xs : List α) (n : Nat) : cutL xs (some (n : Int)) none = xs.drop n := by
  unfold cutL HT.sIx
  have e : ¬ ((n : Int) < 0) := by omega
  simp only [if_neg e, Int.toNat_natCast]
  by_cases h : n ≤ xs.length
  · rw [Nat.min_eq_left h, List.take_of_length_le (by rw [List.length_drop]; exact Nat.le_refl _)]
  · rw [Nat.min_eq_right (by omega), List.drop_of_length_le (Nat.le_refl _), List.drop_of_length_le (by omega), List.take_nil]
theorem in_strs (w : L) : ∀ ws : List L, inD (dS w) (.tup (ws.map dS)) = some (.bl (decide (w ∈ ws))) := fun ws => by
  have hf : (ws.map dS).all D.flat4 = true := List.all_eq_true.mpr fun d m => by
    obtain ⟨w, _, rfl⟩ := List.mem_map.mp m
    rfl
  have ha : ((ws.map dS).any fun z => eqF z (dS w)) = decide (w ∈ ws) := by
    clear hf
    induction ws with
    | nil => rfl
    | cons v ws ih =>
      rw [List.map_cons, List.any_cons, ih]
      show ((SX.S v == SX.S w) || decide (w ∈ ws)) = _
      rw [SX.S_beq_eq]
      by_cases h : v = w
      · rw [decide_eq_true h, Bool.true_or]
        exact (decide_eq_true (by rw [← h]; exact List.mem_cons_self)).symm
      · rw [decide_eq_false h, Bool.false_or]
        by_cases h2 : w ∈ ws
        · rw [decide_eq_true h2]; exact (decide_eq_true (List.mem_cons_of_mem _ h2)).symm
        · rw [decide_eq_false h2]; exact (decide_eq_false fun z => (List.mem_cons.mp z).elim (fun z => h z.symm) h2).symm
  show ((if ((dS w).flat4 && (ws.map dS).all D.flat4) = true then some ((ws.map dS).any fun z => eqF z (dS w)) else none).map D.bl) = _
  rw [hf, ha]
  rfl
theorem in_al (w : L) : inD (dS w) (.tup [dS (codes "names"), dS (codes "sends"), dS (codes "mend"), dS (codes "pack")]) = some (.bl (decide (w ∈ alones))) := in_strs w alones
theorem in_na (w : L) : inD (dS w) (.tup [dS (codes "read"), dS (codes "erase")]) = some (.bl (decide (w ∈ nameds))) := in_strs w nameds
theorem in_tw (w : L) : inD (dS w) (.tup [dS (codes "send"), dS (codes "add"), dS (codes "drop"), dS (codes "cap")]) = some (.bl (decide (w ∈ twos))) := in_strs w twos
local macro_rules | `(tactic| walk_at "zs") => `(tactic| simp only [beq_self_eq_true, Bool.or_false, Bool.false_or, Bool.true_or, Bool.or_true, Bool.and_false, Bool.false_and, Bool.true_and, Bool.and_true, Zc.isi_ii, Zc.isi_ib, Zc.isi_tt, Zc.isi_ll, Zc.rowsT_len, Zc.rowsL_len, Zc.is_integer_call, Zc.ix_p0, Zc.ix_p1, dgTup2_a, dgTup3_a, Bool.not_true, Bool.not_false, mul_lz, List.flatten_cons, List.flatten_nil, Int.reduceToNat, add_ll, pow10_12, pow10_18, pow10_39, pow10_41, pow10_59, pow10_60, mkLst_some, mkTup_some, List.length_cons, List.length_nil, Nat.zero_le, Nat.reduceAdd, Nat.reduceLeDiff, call1, callO1, call2, callO2, call3, callO3, call4, callO4, call5, callO5, call6, callO6, ap1_some, ap2_some, apN_some, apC_some, d1_a, d2_a, dN_a, aNil_a, aCons_a, dC_a, dVar_z, dVar_s, tDt_a, apAnd_t, apAnd_f, apOr_t, apOr_f, dAndT_a, dOrT_a, apNot_some, dNotT_a, apAndV_t, apAndV_f, dAndV_a, apOrV_t, apOrV_f, dOrV_a, apIf_t, apIf_f, dIf_a, apCh_t, apCh_f, apChain_some, dChain_a, apSeq_nx, apSeq_rt, apSeq_ct, apSeq_bk, sSeq_a, apIfS_t, apIfS_f, sIf_a, sNext_a, sCont_a, sBreak_a, apRet_some, sRet_a, apRetO_some, sRetO_a, sRetN_a, getO_z, getO_s, apRetV_some, sRetV_a, ltB_z, ltB_s, okSlot_s, apAsg_some, sAsg_a, dName_ok, apG_some, dgCons_a, dgNil_a, apAsgO_some, sAsgO_a, sApp_a, sSetI_a, apFor_some, sFor_a, dItems_a, dRng1_a, dRng2_a, apEn_some, apEn_tup, dEnum_a, sFrz_a, frzs_nil, frzs_cons, frzI_o, frzI_v, frzI_n, frzI_s, frz1_s, frzAll_nil, frzAll_o, frzAll_v, frzAll_n, peekT_a, apPk_int, apPk_bl, apPk_str, apPk_non, peekF_a, dCall_a, toO_o, dCallO_a, dMake_a, Wd_v, Wd_o, dSl_a, apSl_some, oNone_a, oSome_a, apO_some, add_ii, sub_ii, lt_ii, le_ii, gt_ii, ge_ii, eq_ii, ne_ii, neg_i, not_b, bl_b, tru_b, tru_i, tru_l, tru_t, tru_n, len_l, len_t, len_scr, abs_i, int_i, list_l, list_t, tuple_l, tuple_t, min_ii, max_ii, rev_l, items_l, items_t, iL_len, run_a, outW_rt, outW_nx, List.map_cons, List.map_nil, List.replicate, List.append_nil, List.cons_append, List.nil_append, List.set_cons_zero, List.set_cons_succ, Option.map_some])
local macro_rules | `(tactic| walk_at "zd") => `(tactic| first | ((with_reducible show okSlot _ _ = true); simp only [okSlot_s, ltB_z, ltB_s]; done) | omega | assumption | decide | (simp only [List.length_map, List.length_append, List.length_cons, List.length_nil, List.length_range, List.length_set, List.length_reverse, iL_len, Zc.rowsT_len, Zc.rowsL_len] at *; omega))
local macro_rules | `(tactic| walk_at "zz") => `(tactic| simp (disch := walk_at "zd") only [dgTup2_a, dgTup3_a, Bool.not_true, Bool.not_false, mul_lz, List.flatten_cons, List.flatten_nil, Int.reduceToNat, add_ll, pow10_12, pow10_18, pow10_39, pow10_41, pow10_59, pow10_60, mkLst_some, mkTup_some, List.length_cons, List.length_nil, Nat.zero_le, Nat.reduceAdd, Nat.reduceLeDiff, call1, callO1, call2, callO2, call3, callO3, call4, callO4, call5, callO5, call6, callO6, ap1_some, ap2_some, apN_some, apC_some, d1_a, d2_a, dN_a, aNil_a, aCons_a, dC_a, dVar_z, dVar_s, tDt_a, apAnd_t, apAnd_f, apOr_t, apOr_f, dAndT_a, dOrT_a, apNot_some, dNotT_a, apAndV_t, apAndV_f, dAndV_a, apOrV_t, apOrV_f, dOrV_a, apIf_t, apIf_f, dIf_a, apCh_t, apCh_f, apChain_some, dChain_a, apSeq_nx, apSeq_rt, apSeq_ct, apSeq_bk, sSeq_a, apIfS_t, apIfS_f, sIf_a, sNext_a, sCont_a, sBreak_a, apRet_some, sRet_a, apRetO_some, sRetO_a, sRetN_a, getO_z, getO_s, apRetV_some, sRetV_a, ltB_z, ltB_s, okSlot_s, apAsg_some, sAsg_a, dName_ok, apG_some, dgCons_a, dgNil_a, apAsgO_some, sAsgO_a, sApp_a, sSetI_a, apFor_some, sFor_a, dItems_a, dRng1_a, dRng2_a, apEn_some, apEn_tup, dEnum_a, sFrz_a, frzs_nil, frzs_cons, frzI_o, frzI_v, frzI_n, frzI_s, frz1_s, frzAll_nil, frzAll_o, frzAll_v, frzAll_n, peekT_a, apPk_int, apPk_bl, apPk_str, apPk_non, peekF_a, dCall_a, toO_o, dCallO_a, dMake_a, Wd_v, Wd_o, dSl_a, apSl_some, oNone_a, oSome_a, apO_some, add_ii, sub_ii, lt_ii, le_ii, gt_ii, ge_ii, eq_ii, ne_ii, neg_i, not_b, bl_b, tru_b, tru_i, tru_l, tru_t, tru_n, len_l, len_t, len_scr, abs_i, int_i, list_l, list_t, tuple_l, tuple_t, min_ii, max_ii, rev_l, items_l, items_t, iL_len, run_a, outW_rt, outW_nx, List.map_cons, List.map_nil, List.replicate, List.append_nil, List.cons_append, List.nil_append, List.set_cons_zero, List.set_cons_succ, Option.map_some, Int.reduceAdd, Int.reduceMul, Int.reduceSub, Int.reduceNeg, beq_self_eq_true, Bool.or_false, Bool.false_or, Bool.true_or, Bool.or_true, Bool.and_false, Bool.false_and, Bool.true_and, Bool.and_true, Zc.isi_ii, Zc.isi_ib, Zc.isi_tt, Zc.isi_ll, Zc.rowsT_len, Zc.rowsL_len, Zc.is_integer_call, Zc.ix_p0, Zc.ix_p1, apR1_any, Int.toNat_natCast, apR2_some, mod_ii, fdiv_ii, mul_small, apApp_some, ix_at, ix_atT, ix_atI, ix_atIT, ix_atR, ix_atRT, List.length_map, List.length_append, List.length_range, List.length_set, Option.map_none, Option.map_map, decide_true, decide_false, peekO_a, apPkO_i, frz_wo, frz_wv, frz_kk, wipeG_nil, wipeG_cons, orB_s, orB_t, orB_f, andB_s, andB_t, andB_f, orV_s, orV_t, orV_f, andV_s, andV_t, andV_f, apOr_b, apAnd_b, apOrV_b, apAndV_b, apCh_b, Zc.cut_from, Zc.cut_to, in_l, in_t, in_pr, eq_op_op, eq_op_pr, eq_pr_op, eq_pr_pr, ne_op_op, ne_op_pr, ne_pr_op, ne_pr_pr, isnt_op, is_op, pr_0, pr_1, st_0, st_1, inP_pr, ninP_pr, nin_l, isi_prt, len_pr, op_some, prD_eq, ix_lit2, ix_lit3, ix_lit4, ix_lit5, ix_lit6, ix_lit7, ix_lit8, ix_lit9, ix_lit10, ix_lit11, ix_lit12, ix_lit13, ix_lit14, ix_lit15, setI_i, setI_p, setI_o, setI_n, snoc_i, snoc_r, snoc_p, snoc_n, snoc_o, snoc_pp, snoc_s, eq_ol, ne_ol, eq_pl, ne_pl, eq_sl, ne_sl, eq_il, ne_il, eq_rl, ne_rl, eq_il1, isi_bb, eq_bb, ne_bb, eq_self, lit, dM1_a, apM1_S, dM0_a, apM0_S, Bool.not_true, Bool.not_false, is_tn, is_nn, is_ln, dTxt_a, apTxt_S, Int.reduceBEq, ca, cz, c0, c9, cComma, cEq, cCol, cSl, cSemi, cSp, dZip_a, apZip_l, is_num1, List.isEmpty_nil, List.isEmpty_cons, Bool.false_eq_true, reduceIte, Option.isNone_none, Option.isNone_some, in_alones, in_nameds, get_num, ix4_0, ix4_1, ix4_2, ix4_3, dSlS_w, apSl_s, in_al, in_na, in_tw])
local macro_rules | `(tactic| walk_at "zf") => `(tactic| first | (walk_at "zz"; done) | (walk_at "zz"; rfl) | rfl)
local macro_rules | `(tactic| walk_at "lc") => `(tactic| ((case hf => rfl); (case hi => first | (walk_at "zz"; done) | (walk_at "zz"; rfl) | rfl); (case hl => walk_at "zd"); (case h => (intro a ha; refine ⟨_, dName_ok rfl, ?_, fun hT => ?_⟩ <;> walk_at "zz" <;> rfl))))
local macro_rules | `(tactic| walk_at "lm") => `(tactic| ((case hf => rfl); (case hi => first | (walk_at "zz"; done) | (walk_at "zz"; rfl) | rfl); (case hl => walk_at "zd"); (case h => (intro a ha; refine ⟨_, dName_ok rfl, ?_⟩; walk_at "zz"; rfl))))
def nrest : SF := (sSeq (sAsg (dLc (dItems (dSl (dVar 1) (oSome (dC (.int 1))) oNone)) (dName 4) dYes (dCall 1 (g_law_integer) (aCons (dVar 4) aNil)) [4]) (dName 3))
 (sSeq (sIf (tDt blD (d2 inD (dC .non) (dVar 3)))
 (sRet (dC .non))
 sNext)
 (sSeq (sIf (dOrT (dAndT (tDt blD (d2 inD (d2 ixD (dVar 1) (dC (.int 0))) (dN mkTup (aCons (dC (dS (codes "send"))) (aCons (dC (dS (codes "add"))) (aCons (dC (dS (codes "drop"))) (aCons (dC (dS (codes "cap"))) aNil))))))) (tDt blD (d2 eqD (dVar 2) (dC (.int 3))))) (dAndT (tDt blD (d2 eqD (d2 ixD (dVar 1) (dC (.int 0))) (dC (dS (codes "lose"))))) (tDt blD (d2 eqD (dVar 2) (dC (.int 2))))))
 (sRet (dN tupleD (aCons (d2 addD (dN mkLst (aCons (d2 ixD (dVar 1) (dC (.int 0))) aNil)) (dVar 3)) aNil)))
 sNext)
 (sRet (dC .non)))))
theorem nrest_spec {A : D} {R : List D} {w : L} {ps : List L} (hix : ixD (.lst R) (.int 0) = some (dS w)) (hcut : cutL R (some 1) none = ps.map dS) (hw : asc w = true) (q1 : ∀ p ∈ ps, asc p = true) (q2 : ∀ p ∈ ps, p.length ≤ 640) (q4 : ps.length ≤ 650) :
    outW (nrest [some (.v A), some (.v (.lst R)), some (.v (.int ((ps.length + 1 : Nat) : Int))), none, none]) = some (.v (oD cmdD (if ps.all isNum = true then (if (w ∈ twos ∧ ps.length = 2) ∨ (w = codes "lose" ∧ ps.length = 1) then some (Cmd.nums w (ps.map val)) else none) else none))) := by
  unfold nrest
  walk_at "zz"
  rewrite [dLc_map dS (xs := ps) (F := intO)]
  case hf => rfl
  case hi =>
    walk_at "zz"
    rw [hcut]
  case hl => omega
  case h =>
    intro p hm
    refine ⟨_, dName_ok rfl, ?_⟩
    walk_at "zz"
    rw [law_integer_spec (q1 p hm) (q2 p hm)]
    walk_at "zz"
  walk_at "zz"
  rw [in_ints]
  cases hall : ps.all isNum
  · walk_at "zz"
    rfl
  · walk_at "zz"
    rw [hix]
    walk_at "zz"
    rw [hix]
    walk_at "zz"
    rw [eq_S hw (by decide)]
    walk_at "zz"
    have e3 : (((ps.length + 1 : Nat) : Int) == 3) = decide (ps.length = 2) := by
      by_cases h : ps.length = 2
      · rw [decide_eq_true h, h]; rfl
      · rw [decide_eq_false h]; exact beq_eq_false_iff_ne.mpr (by omega)
    have e2 : (((ps.length + 1 : Nat) : Int) == 2) = decide (ps.length = 1) := by
      by_cases h : ps.length = 1
      · rw [decide_eq_true h, h]; rfl
      · rw [decide_eq_false h]; exact beq_eq_false_iff_ne.mpr (by omega)
    rw [e3, e2]
    have hv : ps.map intO = iL (ps.map val) := ints_all hall
    by_cases hc : (w ∈ twos ∧ ps.length = 2) ∨ (w = codes "lose" ∧ ps.length = 1)
    · rw [if_pos hc]
      have hb : (decide (w ∈ twos) && decide (ps.length = 2) || decide (w = codes "lose") && decide (ps.length = 1)) = true := by
        rw [Bool.or_eq_true, Bool.and_eq_true, Bool.and_eq_true, decide_eq_true_eq, decide_eq_true_eq, decide_eq_true_eq, decide_eq_true_eq]
        exact hc
      rw [hb]
      walk_at "zz"
      rw [hix]
      walk_at "zz"
      rw [hv]
      rfl
    · rw [if_neg hc]
      have hb : (decide (w ∈ twos) && decide (ps.length = 2) || decide (w = codes "lose") && decide (ps.length = 1)) = false := by
        refine Bool.eq_false_iff.mpr fun z => hc ?_
        rw [Bool.or_eq_true, Bool.and_eq_true, Bool.and_eq_true, decide_eq_true_eq, decide_eq_true_eq, decide_eq_true_eq, decide_eq_true_eq] at z
        exact z
      rw [hb]
      walk_at "zz"
      rfl
theorem law_reading_spec {a : L} (ha : asc a = true) (hl : a.length ≤ 640) : g_law_reading [dS a] = some (.v (oD cmdD (lwCmd a))) := by
  unfold g_law_reading t_law_reading
  walk_at "zz"
  rw [show codes "\n" = [10] from rfl, in_S]
  unfold lwCmd
  by_cases h1 : 10 ∈ a
  · rw [decide_eq_true h1, if_pos h1]
    walk_at "zz"
    rfl
  rw [decide_eq_false h1, if_neg h1]
  walk_at "zz"
  rw [sl_to (by omega) (by decide), show (4 : Int).toNat = 4 from rfl]
  walk_at "zz"
  rw [eq_S (List.all_eq_true.mpr fun c m => decide_eq_true (asc_mem ha (List.mem_of_mem_take m))) (by decide)]
  by_cases h2 : a.take 4 = codes "put "
  · rw [decide_eq_true h2, if_pos h2]
    walk_at "zz"
    rw [sl_from (by omega) (by decide), show (4 : Int).toNat = 4 from rfl]
    walk_at "zz"
    rw [law_put_reading_spec (List.all_eq_true.mpr fun c m => decide_eq_true (asc_mem ha (List.mem_of_mem_drop m))) (by rw [List.length_drop]; omega)]
    walk_at "zz"
  rw [decide_eq_false h2, if_neg h2]
  walk_at "zz"
  rw [sp_S (by decide) (by omega)]
  have q1 := sp_asc (c := 32) ha
  have q2 := sp_le (c := 32) (b := 640) hl
  have q3 := sp_ne (c := 32) a
  have q4 := sp_count (c := 32) a.length a (Nat.le_refl _)
  generalize sp 32 a = ws at q1 q2 q3 q4 ⊢
  cases ws with
  | nil => exact absurd rfl q3
  | cons w ps =>
    have hix : ixD (.lst ((w :: ps).map dS)) (.int 0) = some (dS w) := by
      have := at_nat (a := (w :: ps).map dS) (n := 0) (by simp)
      exact this
    have hcut : cutL ((w :: ps).map dS) (some 1) none = ps.map dS := by
      have := cutY_from ((w :: ps).map dS) 1
      exact this
    have hml : ((w :: ps).map dS).length = ps.length + 1 := by rw [List.length_map, List.length_cons]
    rw [List.length_cons] at q4
    generalize hR : (w :: ps).map dS = R at hix hcut hml ⊢
    walk_at "zz"
    rw [hix]
    walk_at "zz"
    rw [hml]
    show _ = some (Wd.v (oD cmdD (if w ∈ alones ∧ ps = [] then some (Cmd.alone w) else if w ∈ nameds ∧ ps.length = 1 ∧ isName (ps.headD []) = true then some (Cmd.named w (ps.headD [])) else if ps.all isNum = true then (if (w ∈ twos ∧ ps.length = 2) ∨ (w = codes "lose" ∧ ps.length = 1) then some (Cmd.nums w (ps.map val)) else none) else none)))
    by_cases hA : w ∈ alones ∧ ps = []
    · rw [if_pos hA]
      rw [show (decide (w ∈ alones) && (((ps.length + 1 : Nat) : Int) == 1)) = true by rw [decide_eq_true hA.1, hA.2]; rfl]
      walk_at "zz"
      rw [hix]
      walk_at "zz"
      rfl
    rw [if_neg hA]
    have eA : (decide (w ∈ alones) && (((ps.length + 1 : Nat) : Int) == 1)) = false := by
      rw [Bool.and_eq_false_iff, decide_eq_false_iff_not]
      by_cases hw : w ∈ alones
      · right
        refine beq_eq_false_iff_ne.mpr fun z => hA ⟨hw, List.length_eq_zero_iff.mp (by omega)⟩
      · exact .inl hw
    rw [eA]
    by_cases hB : w ∈ nameds ∧ ps.length = 1
    · obtain ⟨p, rfl⟩ : ∃ p, ps = [p] := by
        obtain ⟨_, z⟩ := hB
        match ps, z with
        | [p], _ => exact ⟨p, rfl⟩
      have hp := q2 p (by simp)
      have hi1 : ixD (.lst R) (.int 1) = some (dS p) := by rw [← hR]; rfl
      cases hq : isName p
      · have eB : ¬ (w ∈ nameds ∧ ([p] : List L).length = 1 ∧ isName (([p] : List L).headD []) = true) := fun z => by
          have := z.2.2
          rw [show ([p] : List L).headD [] = p from rfl, hq] at this
          cases this
        rw [if_neg eB]
        have hn := nrest_spec (A := dS a) (ps := [p]) hix hcut (q1 w (by simp)) (fun v m => q1 v (List.mem_cons_of_mem _ m)) (fun v m => q2 v (List.mem_cons_of_mem _ m)) (by simp)
        generalize (if ([p] : List L).all isNum = true then (if (w ∈ twos ∧ ([p] : List L).length = 2) ∨ (w = codes "lose" ∧ ([p] : List L).length = 1) then some (Cmd.nums w (([p] : List L).map val)) else none) else none) = rhs at hn ⊢
        walk_at "zz"
        rw [hix]
        walk_at "zz"
        rw [decide_eq_true hB.1]
        walk_at "zz"
        rw [hi1]
        walk_at "zz"
        rw [law_is_name_spec hp, hq]
        exact hn
      · rw [if_pos ⟨hB.1, rfl, hq⟩]
        walk_at "zz"
        rw [hix]
        walk_at "zz"
        rw [decide_eq_true hB.1]
        walk_at "zz"
        rw [hi1]
        walk_at "zz"
        rw [law_is_name_spec hp, hq]
        walk_at "zz"
        rw [show ((((2 : Nat) : Int)) == 2) = true from rfl]
        walk_at "zz"
        rw [hix, hi1]
        rfl
    · have eB : ¬ (w ∈ nameds ∧ ps.length = 1 ∧ isName (ps.headD []) = true) := fun z => hB ⟨z.1, z.2.1⟩
      rw [if_neg eB]
      walk_at "zz"
      rw [hix]
      walk_at "zz"
      have eb : andB (decide (w ∈ nameds)) (andB (((ps.length + 1 : Nat) : Int) == 2) (ap1 truD (apCall 1 g_law_is_name (apC (ixD (.lst R) (.int 1)) (some []))))) = some false := by
        by_cases hw : w ∈ nameds
        · have : (((ps.length + 1 : Nat) : Int) == 2) = false := beq_eq_false_iff_ne.mpr fun z => hB ⟨hw, by omega⟩
          rw [this]
          cases decide (w ∈ nameds) <;> rfl
        · rw [decide_eq_false hw]; rfl
      rw [eb]
      exact nrest_spec (A := dS a) hix hcut (q1 w List.mem_cons_self) (fun v m => q1 v (List.mem_cons_of_mem _ m)) (fun v m => q2 v (List.mem_cons_of_mem _ m)) (by omega)
/-- the law reads what the program reads -/
theorem law_reading_is {a : L} (ha : asc a = true) (hl : a.length ≤ 640) : g_law_reading [dS a] = some (.v (oD cmdD (rdCmd a))) := by rw [law_reading_spec ha hl, agree]
end Y
end

section
set_option Elab.async false
set_option linter.all false
set_option maxRecDepth 100000
set_option maxHeartbeats 4000000
/-! What is read, what is refused, there and back. -/
namespace Y
open L2 Zk Zc Zj Zd Rk
open PySem hiding wordsOf Tok
theorem dXf1 {a dd E : Addr} {fld : PySem.Str} {x : D} {fs : List (PySem.Str × D)} {r : Gm} : Zr.dXf a dd E fld 1 (some (.v x) :: some (.v (.exn a dd E fs)) :: r) = fs.lookup fld := if_pos ⟨rfl, rfl, rfl⟩
theorem dIs1 {a dd E : Addr} {b : Bool} {x : D} {fs : List (PySem.Str × D)} {r : Gm} : Zr.dIs a dd E b 1 (some (.v x) :: some (.v (.exn a dd E fs)) :: r) = some (.bl b) := if_pos ⟨rfl, rfl, rfl⟩
theorem look_text {d : D} : List.lookup ("text" : PySem.Str) [(("text" : PySem.Str), d)] = some d := by simp [List.lookup]
theorem is_o (o : Option Cmd) : isD (oD cmdD o) .non = some (.bl o.isNone) := by
  cases o with
  | none => rfl
  | some c => cases c <;> rfl
theorem isnt_o (o : Option Cmd) : isntD (oD cmdD o) .non = some (.bl (!o.isNone)) := by
  cases o with
  | none => rfl
  | some c => cases c <;> rfl
theorem isi_c31 {k : Int} : g_law_is_integer [.int k] = some (.v (.bl true)) := rfl
local macro_rules | `(tactic| walk_at "zs") => `(tactic| simp only [beq_self_eq_true, Bool.or_false, Bool.false_or, Bool.true_or, Bool.or_true, Bool.and_false, Bool.false_and, Bool.true_and, Bool.and_true, Zc.isi_ii, Zc.isi_ib, Zc.isi_tt, Zc.isi_ll, Zc.rowsT_len, Zc.rowsL_len, Zc.is_integer_call, Zc.ix_p0, Zc.ix_p1, dgTup2_a, dgTup3_a, Bool.not_true, Bool.not_false, mul_lz, List.flatten_cons, List.flatten_nil, Int.reduceToNat, add_ll, pow10_12, pow10_18, pow10_39, pow10_41, pow10_59, pow10_60, mkLst_some, mkTup_some, List.length_cons, List.length_nil, Nat.zero_le, Nat.reduceAdd, Nat.reduceLeDiff, call1, callO1, call2, callO2, call3, callO3, call4, callO4, call5, callO5, call6, callO6, ap1_some, ap2_some, apN_some, apC_some, d1_a, d2_a, dN_a, aNil_a, aCons_a, dC_a, dVar_z, dVar_s, tDt_a, apAnd_t, apAnd_f, apOr_t, apOr_f, dAndT_a, dOrT_a, apNot_some, dNotT_a, apAndV_t, apAndV_f, dAndV_a, apOrV_t, apOrV_f, dOrV_a, apIf_t, apIf_f, dIf_a, apCh_t, apCh_f, apChain_some, dChain_a, apSeq_nx, apSeq_rt, apSeq_ct, apSeq_bk, sSeq_a, apIfS_t, apIfS_f, sIf_a, sNext_a, sCont_a, sBreak_a, apRet_some, sRet_a, apRetO_some, sRetO_a, sRetN_a, getO_z, getO_s, apRetV_some, sRetV_a, ltB_z, ltB_s, okSlot_s, apAsg_some, sAsg_a, dName_ok, apG_some, dgCons_a, dgNil_a, apAsgO_some, sAsgO_a, sApp_a, sSetI_a, apFor_some, sFor_a, dItems_a, dRng1_a, dRng2_a, apEn_some, apEn_tup, dEnum_a, sFrz_a, frzs_nil, frzs_cons, frzI_o, frzI_v, frzI_n, frzI_s, frz1_s, frzAll_nil, frzAll_o, frzAll_v, frzAll_n, peekT_a, apPk_int, apPk_bl, apPk_str, apPk_non, peekF_a, dCall_a, toO_o, dCallO_a, dMake_a, Wd_v, Wd_o, dSl_a, apSl_some, oNone_a, oSome_a, apO_some, add_ii, sub_ii, lt_ii, le_ii, gt_ii, ge_ii, eq_ii, ne_ii, neg_i, not_b, bl_b, tru_b, tru_i, tru_l, tru_t, tru_n, len_l, len_t, len_scr, abs_i, int_i, list_l, list_t, tuple_l, tuple_t, min_ii, max_ii, rev_l, items_l, items_t, iL_len, run_a, outW_rt, outW_nx, List.map_cons, List.map_nil, List.replicate, List.append_nil, List.cons_append, List.nil_append, List.set_cons_zero, List.set_cons_succ, Option.map_some])
local macro_rules | `(tactic| walk_at "zd") => `(tactic| first | ((with_reducible show okSlot _ _ = true); simp only [okSlot_s, ltB_z, ltB_s]; done) | omega | assumption | decide | (simp only [List.length_map, List.length_append, List.length_cons, List.length_nil, List.length_range, List.length_set, List.length_reverse, iL_len, Zc.rowsT_len, Zc.rowsL_len] at *; omega))
local macro_rules | `(tactic| walk_at "zz") => `(tactic| simp (disch := walk_at "zd") only [dgTup2_a, dgTup3_a, Bool.not_true, Bool.not_false, mul_lz, List.flatten_cons, List.flatten_nil, Int.reduceToNat, add_ll, pow10_12, pow10_18, pow10_39, pow10_41, pow10_59, pow10_60, mkLst_some, mkTup_some, List.length_cons, List.length_nil, Nat.zero_le, Nat.reduceAdd, Nat.reduceLeDiff, call1, callO1, call2, callO2, call3, callO3, call4, callO4, call5, callO5, call6, callO6, ap1_some, ap2_some, apN_some, apC_some, d1_a, d2_a, dN_a, aNil_a, aCons_a, dC_a, dVar_z, dVar_s, tDt_a, apAnd_t, apAnd_f, apOr_t, apOr_f, dAndT_a, dOrT_a, apNot_some, dNotT_a, apAndV_t, apAndV_f, dAndV_a, apOrV_t, apOrV_f, dOrV_a, apIf_t, apIf_f, dIf_a, apCh_t, apCh_f, apChain_some, dChain_a, apSeq_nx, apSeq_rt, apSeq_ct, apSeq_bk, sSeq_a, apIfS_t, apIfS_f, sIf_a, sNext_a, sCont_a, sBreak_a, apRet_some, sRet_a, apRetO_some, sRetO_a, sRetN_a, getO_z, getO_s, apRetV_some, sRetV_a, ltB_z, ltB_s, okSlot_s, apAsg_some, sAsg_a, dName_ok, apG_some, dgCons_a, dgNil_a, apAsgO_some, sAsgO_a, sApp_a, sSetI_a, apFor_some, sFor_a, dItems_a, dRng1_a, dRng2_a, apEn_some, apEn_tup, dEnum_a, sFrz_a, frzs_nil, frzs_cons, frzI_o, frzI_v, frzI_n, frzI_s, frz1_s, frzAll_nil, frzAll_o, frzAll_v, frzAll_n, peekT_a, apPk_int, apPk_bl, apPk_str, apPk_non, peekF_a, dCall_a, toO_o, dCallO_a, dMake_a, Wd_v, Wd_o, dSl_a, apSl_some, oNone_a, oSome_a, apO_some, add_ii, sub_ii, lt_ii, le_ii, gt_ii, ge_ii, eq_ii, ne_ii, neg_i, not_b, bl_b, tru_b, tru_i, tru_l, tru_t, tru_n, len_l, len_t, len_scr, abs_i, int_i, list_l, list_t, tuple_l, tuple_t, min_ii, max_ii, rev_l, items_l, items_t, iL_len, run_a, outW_rt, outW_nx, List.map_cons, List.map_nil, List.replicate, List.append_nil, List.cons_append, List.nil_append, List.set_cons_zero, List.set_cons_succ, Option.map_some, Int.reduceAdd, Int.reduceMul, Int.reduceSub, Int.reduceNeg, beq_self_eq_true, Bool.or_false, Bool.false_or, Bool.true_or, Bool.or_true, Bool.and_false, Bool.false_and, Bool.true_and, Bool.and_true, Zc.isi_ii, Zc.isi_ib, Zc.isi_tt, Zc.isi_ll, Zc.rowsT_len, Zc.rowsL_len, Zc.is_integer_call, Zc.ix_p0, Zc.ix_p1, apR1_any, Int.toNat_natCast, apR2_some, mod_ii, fdiv_ii, mul_small, apApp_some, ix_at, ix_atT, ix_atI, ix_atIT, ix_atR, ix_atRT, List.length_map, List.length_append, List.length_range, List.length_set, Option.map_none, Option.map_map, decide_true, decide_false, peekO_a, apPkO_i, frz_wo, frz_wv, frz_kk, wipeG_nil, wipeG_cons, orB_s, orB_t, orB_f, andB_s, andB_t, andB_f, orV_s, orV_t, orV_f, andV_s, andV_t, andV_f, apOr_b, apAnd_b, apOrV_b, apAndV_b, apCh_b, Zc.cut_from, Zc.cut_to, in_l, in_t, in_pr, eq_op_op, eq_op_pr, eq_pr_op, eq_pr_pr, ne_op_op, ne_op_pr, ne_pr_op, ne_pr_pr, isnt_op, is_op, pr_0, pr_1, st_0, st_1, inP_pr, ninP_pr, nin_l, isi_prt, len_pr, op_some, prD_eq, ix_lit2, ix_lit3, ix_lit4, ix_lit5, ix_lit6, ix_lit7, ix_lit8, ix_lit9, ix_lit10, ix_lit11, ix_lit12, ix_lit13, ix_lit14, ix_lit15, setI_i, setI_p, setI_o, setI_n, snoc_i, snoc_r, snoc_p, snoc_n, snoc_o, snoc_pp, snoc_s, eq_ol, ne_ol, eq_pl, ne_pl, eq_sl, ne_sl, eq_il, ne_il, eq_rl, ne_rl, eq_il1, isi_bb, eq_bb, ne_bb, eq_self, lit, dM1_a, apM1_S, dM0_a, apM0_S, Bool.not_true, Bool.not_false, is_tn, is_nn, is_ln, dTxt_a, apTxt_S, Int.reduceBEq, ca, cz, c0, c9, cComma, cEq, cCol, cSl, cSemi, cSp, dZip_a, apZip_l, is_num1, List.isEmpty_nil, List.isEmpty_cons, Bool.false_eq_true, reduceIte, Option.isNone_none, Option.isNone_some, in_alones, in_nameds, get_num, ix4_0, ix4_1, ix4_2, ix4_3, dSlS_w, apSl_s, in_al, in_na, in_tw, dXf1, dIs1, look_text, is_o, isnt_o, isi_st, isi_stt, isi_is, isi_itt, isi_ts, Rk.isi_tt, Rk.isi_call, isi_c31])
local macro_rules | `(tactic| walk_at "zf") => `(tactic| first | (walk_at "zz"; done) | (walk_at "zz"; rfl) | rfl)
local macro_rules | `(tactic| walk_at "lc") => `(tactic| ((case hf => rfl); (case hi => first | (walk_at "zz"; done) | (walk_at "zz"; rfl) | rfl); (case hl => walk_at "zd"); (case h => (intro a ha; refine ⟨_, dName_ok rfl, ?_, fun hT => ?_⟩ <;> walk_at "zz" <;> rfl))))
local macro_rules | `(tactic| walk_at "lm") => `(tactic| ((case hf => rfl); (case hi => first | (walk_at "zz"; done) | (walk_at "zz"; rfl) | rfl); (case hl => walk_at "zd"); (case h => (intro a ha; refine ⟨_, dName_ok rfl, ?_⟩; walk_at "zz"; rfl))))
theorem xt1 {xg : List D → Option Zr.XV} {x d : D} {r : Gm} {v : Zr.XV} (h : xg [x] = some v) : Zr.xTail (dC d) (Zr.xCall 1 xg (aCons (dVar 0) aNil)) (some (.v x) :: r) = some (v, some (.v x) :: r) := by
  unfold Zr.xTail Zr.xCall
  walk_at "zz"
  show (if 1 = 1 then (xg [x]).map _ else none) = _
  rw [if_pos rfl, h]
  rfl
theorem xt0 {xg : List D → Option Zr.XV} {x d : D} {r : Gm} (h : xg [x] = none) : Zr.xTail (dC d) (Zr.xCall 1 xg (aCons (dVar 0) aNil)) (some (.v x) :: r) = none := by
  unfold Zr.xTail Zr.xCall
  walk_at "zz"
  show (if 1 = 1 then (xg [x]).map _ else none) = _
  rw [if_pos rfl, h]
  rfl
theorem xSeq_n31 {t : SF} {x y : Zr.XF} {g g1 : Gm} (hx : x g = none) (ht : t g = some (.nx g1)) : Zr.xSeq t x y g = y g1 := by
  unfold Zr.xSeq
  rw [hx, ht]
theorem xSeq_y31 {t : SF} {x y : Zr.XF} {g : Gm} {r : Zr.XV × Gm} (hx : x g = some r) : Zr.xSeq t x y g = some r := by
  unfold Zr.xSeq
  rw [hx]
theorem xIf_t31 {c : DTF} {x y : Zr.XF} {g : Gm} (h : c g = some true) : Zr.xIf c x y g = x g := by
  unfold Zr.xIf
  rw [h]
theorem xIf_f31 {c : DTF} {x y : Zr.XF} {g : Gm} (h : c g = some false) : Zr.xIf c x y g = y g := by
  unfold Zr.xIf
  rw [h]
theorem dItL {a : DF} {g : Gm} {ds : List D} (h : a g = some (.lst ds)) : Zre.dItemsL a g = some ds := by
  unfold Zre.dItemsL
  rw [h]
theorem loop3 {x y : Option Wd} : loopD (dName 3) (sAsg (dAndV (dVar 2) (d1 notD (dVar 3))) (dName 2)) [.bl false, .bl false, .bl false] [x, y, some (.v (.bl true)), none] = some (.nx [x, y, some (.v (.bl true)), some (.v (.bl false))]) := (rfl)
theorem nl_step {c : Cs} {a : L} (ha : asc a = true) (hl : a.length ≤ 640) :
    sAsg (dIf (tDt blD (d2 (Zj.onT Zj.inTf) (dC (.str "\n")) (dVar 0))) (dC .non) (dCall 1 (g_read_line c) (aCons (dVar 0) aNil))) (dName 1) [some (.v (dS a)), none] = some (.nx [some (.v (dS a)), some (.v (oD cmdD (rdCmd a)))]) := by
  walk_at "zz"
  rw [show codes "\n" = [10] from rfl, in_S, rdCmd_eq]
  by_cases h : 10 ∈ a
  · rw [decide_eq_true h, if_pos h]
    walk_at "zz"
    rfl
  · rw [decide_eq_false h, if_neg h]
    walk_at "zz"
    rw [read_line_spec ha hl]
    walk_at "zz"
theorem parse_line_spec {c : Cs} {a : L} {k : Cmd} (ha : asc a = true) (hl : a.length ≤ 640) (h : rdCmd a = some k) : g_parse_line c [dS a] = some (.v (cmdD k)) := by
  unfold g_parse_line t_parse_line
  rw [run_a]
  simp only [List.map_cons, List.map_nil, List.replicate, List.cons_append, List.nil_append]
  rw [sSeq_a, nl_step ha hl]
  walk_at "zz"
  rw [h]
  walk_at "zz"
  rfl
theorem parse_line_yes {c : Cs} {a : L} {k : Cmd} (ha : asc a = true) (hl : a.length ≤ 640) (h : rdCmd a = some k) : gr_parse_line c [dS a] = none := by
  have e1 := nl_step (c := c) ha hl
  rw [h] at e1
  unfold gr_parse_line Zr.runX xr_parse_line
  refine (congrArg (Option.map _) (xSeq_n31 (g1 := [some (.v (dS a)), some (.v (oD cmdD (some k)))]) rfl e1)).trans ?_
  have e2 : (tDt blD (d2 isD (dVar 1) (dC .non))) [some (.v (dS a)), some (.v (oD cmdD (some k)))] = some false := by walk_at "zz"
  refine (congrArg (Option.map _) (xSeq_n31 (g1 := [some (.v (dS a)), some (.v (oD cmdD (some k)))]) ((xIf_f31 e2).trans rfl) ?_)).trans rfl
  rw [sIf_a, e2]
  rfl
theorem parse_line_no {c : Cs} {a : L} (ha : asc a = true) (hl : a.length ≤ 640) (h : rdCmd a = none) : gr_parse_line c [dS a] = some (c.InvalidLine, [(("text" : PySem.Str), dS a)]) := by
  have e1 := nl_step (c := c) ha hl
  rw [h] at e1
  unfold gr_parse_line Zr.runX xr_parse_line
  refine (congrArg (Option.map _) (xSeq_n31 (g1 := [some (.v (dS a)), some (.v .non)]) rfl e1)).trans ?_
  have e2 : (tDt blD (d2 isD (dVar 1) (dC .non))) [some (.v (dS a)), some (.v .non)] = some true := by walk_at "zz"
  refine (congrArg (Option.map _) (xSeq_y31 (r := ((c.InvalidLine, [(("text" : PySem.Str), dS a)]), [some (.v (dS a)), some (.v .non)])) ((xIf_t31 e2).trans ?_))).trans rfl
  unfold Zr.xRaise1
  walk_at "zz"
def outP (a : L) : Option Cmd → D
  | some k => .tup [dS (codes "command"), cmdD k]
  | none => .tup [dS (codes "refused"), dS a, .bl true]
theorem law_parsed_spec {c : Cs} {a : L} (ha : asc a = true) (hl : a.length ≤ 640) : g_law_parsed c [dS a] = some (.v (outP a (rdCmd a))) := by
  unfold g_law_parsed t_law_parsed
  rw [run_a]
  simp only [List.map_cons, List.map_nil, List.replicate, List.cons_append, List.nil_append]
  cases h : rdCmd a with
  | some k =>
    rw [Zr.sTry_no (xt0 (parse_line_yes ha hl h))]
    walk_at "zz"
    rw [parse_line_spec ha hl h]
    walk_at "zz"
    rfl
  | none =>
    rw [Zr.sTry_yes (w := .v (outP a none)) (xt1 (parse_line_no ha hl h)) rfl (fun e dd => ?_)]
    · rfl
    · simp only [List.set_cons_succ, List.set_cons_zero]
      walk_at "zz"
      rw [dItL (ds := [.bl false, .bl false, .bl false]) (by walk_at "zz")]
      walk_at "zz"
      rw [loop3]
      walk_at "zz"
      rfl
/-! ### alike -/
theorem alike0 {d : D} (h : atom d) : g_law_alikeU0 [d, d] = some (.v (.bl true)) := by
  unfold g_law_alikeU0 t_law_alikeU0
  rcases h with ⟨a, rfl, ha⟩ | ⟨i, rfl⟩
  · walk_at "zz"
    rw [eq_S ha ha, decide_eq_true rfl]
    walk_at "zz"
  · walk_at "zz"
def tB (rec : PF) : SF :=
 (sSeq (sIf (tDt truD (dN isiD (aCons (dVar 1) (aCons (dC (.ty "tuple")) aNil))))
 (sSeq (sIf (dOrT (dNotT (tDt truD (dN isiD (aCons (dVar 0) (aCons (dC (.ty "tuple")) aNil))))) (tDt blD (d2 neD (dN lenD (aCons (dVar 0) aNil)) (dN lenD (aCons (dVar 1) aNil)))))
 (sRet (dC (.bl false)))
 sNext)
 (sSeq (sFor (dRng1 (aCons (dN lenD (aCons (dVar 1) aNil)) aNil)) (dName 2)
 (sIf (dNotT (tDt truD (dCall 2 rec (aCons (d2 ixD (dVar 0) (dVar 2)) (aCons (d2 ixD (dVar 1) (dVar 2)) aNil)))))
 (sRet (dC (.bl false)))
 sNext))
 (sRet (dC (.bl true)))))
 sNext)
 (sSeq (sIf (tDt truD (dN isiD (aCons (dVar 1) (aCons (dC (.ty "str")) aNil))))
 (sRet (dAndV (dN isiD (aCons (dVar 0) (aCons (dC (.ty "str")) aNil))) (d2 eqD (dVar 0) (dVar 1))))
 sNext)
 (sRet (dAndV (dCall 1 (g_law_is_integer) (aCons (dVar 0) aNil)) (d2 eqD (dVar 0) (dVar 1))))))
theorem alikeB {rec : PF} {n : Nat} {d : D} (hr : ∀ x, plain n x → rec [x, x] = some (.v (.bl true))) (h : plain (n + 1) d) : runG 1 (tB rec) [d, d] = some (.v (.bl true)) := by
  unfold tB
  rcases h with (⟨a, rfl, ha⟩ | ⟨i, rfl⟩) | ⟨ds, rfl, hl, hd⟩
  · walk_at "zz"
    rw [eq_S ha ha, decide_eq_true rfl]
    walk_at "zz"
  · walk_at "zz"
  · walk_at "zz"
    refine rng_then (C := fun o => outW (apSeq o _) = some (.v (.bl true))) (fun i g => ∃ k : Option Wd, g = [some (.v (.tup ds)), some (.v (.tup ds)), k]) ?_ ?_ ?_ ?_
    · exact ⟨none, rfl⟩
    · rintro i g ⟨k, rfl⟩
      rfl
    · rintro i g hi ⟨k, rfl⟩
      refine ⟨[some (.v (.tup ds)), some (.v (.tup ds)), some (.v (.int (i : Int)))], .inl ?_, _, rfl⟩
      show sIf _ _ _ [some (.v (.tup ds)), some (.v (.tup ds)), some (.v (.int (i : Int)))] = _
      have e1 : ixD (.tup ds) (.int (i : Int)) = some ds[i] := ix_t (List.getElem?_eq_getElem hi)
      walk_at "zz"
      rw [e1]
      walk_at "zz"
      rw [hr _ (hd _ (List.getElem_mem hi))]
      walk_at "zz"
    · rintro g ⟨k, rfl⟩
      walk_at "zz"
theorem alike_spec {d : D} (h : plain 2 d) : g_law_alike [d, d] = some (.v (.bl true)) := alikeB (rec := g_law_alikeU1) (n := 1) (fun x hx => alikeB (rec := g_law_alikeU0) (n := 0) (fun y hy => alike0 hy) hx) h
theorem cmd_plain {k : Cmd} (h : CmdSm k) (ha : asc (lineOf k) = true) : plain 2 (cmdD k) := by
  have hok := h.ok
  have hl := h.len
  have kw : ∀ w ∈ codes "put" :: codes "lose" :: (nameds ++ alones ++ twos), asc w = true := by decide
  cases k with
  | put n a t =>
    have ht : asc t = true := List.all_eq_true.mpr fun c m => decide_eq_true (asc_mem ha (by
      show c ∈ codes "put " ++ n ++ tailN a ++ 58 :: t
      exact List.mem_append_right _ (List.mem_cons_of_mem _ m)))
    have hal : a.length ≤ 1000 := by
      have h1 : (joinN a).length ≤ 640 := by
        have h2 : (codes "put " ++ n ++ tailN a ++ 58 :: t).length ≤ 640 := hl
        cases a with
        | nil => simp [joinN, TL.joinL]
        | cons x r =>
          rw [List.length_append, List.length_append] at h2
          have h3 : (tailN (x :: r)).length = (joinN (x :: r)).length + 1 := rfl
          omega
      have h2 := len_join44 (a.map num)
      unfold joinN at h1
      rw [List.length_map] at h2
      omega
    refine plain_tup (by simp) fun x m => ?_
    simp only [List.mem_cons, List.not_mem_nil, or_false] at m
    rcases m with rfl | rfl | rfl | rfl
    · exact atom_plain (atom_S (by decide)) 1
    · exact atom_plain (atom_S (okW_asc (okW_name hok.nm))) 1
    · exact plain_ints hal
    · exact atom_plain (atom_S ht) 1
  | named w n =>
    refine plain_tup (by simp) fun x m => ?_
    simp only [List.mem_cons, List.not_mem_nil, or_false] at m
    rcases m with rfl | rfl
    · exact atom_plain (atom_S (kw w (by simp [hok.1]))) 1
    · exact atom_plain (atom_S (okW_asc (okW_name hok.2))) 1
  | nums w ns =>
    have hw : w ∈ codes "put" :: codes "lose" :: (nameds ++ alones ++ twos) := by
      rcases (cnt_iff w ns.length).mp hok.1 with ⟨z, _⟩ | ⟨z, _⟩
      · simp [z]
      · simp [z]
    have hn : ns.length ≤ 2 := by
      rcases (cnt_iff w ns.length).mp hok.1 with ⟨_, z⟩ | ⟨_, z⟩ <;> omega
    refine plain_tup (by simp [iL]; omega) fun x m => ?_
    rcases List.mem_cons.mp m with rfl | m
    · exact atom_plain (atom_S (kw w hw)) 1
    · obtain ⟨i, _, rfl⟩ := List.mem_map.mp m
      exact atom_plain (atom_i i) 1
  | alone w =>
    refine plain_tup (by simp) fun x m => ?_
    rw [List.mem_singleton.mp m]
    exact atom_plain (atom_S (kw w (by have : w ∈ alones := hok; simp [this]))) 1
theorem there_and_back_spec {c : Cs} {k : Cmd} (h : CmdSm k) (ha : asc (lineOf k) = true) : g_law_there_and_back c [cmdD k, dS (lineOf k)] = some (.v (.bl true)) := by
  unfold g_law_there_and_back t_law_there_and_back
  walk_at "zz"
  rw [command_line_spec h]
  walk_at "zz"
  rw [ne_S ha ha, decide_eq_true rfl]
  walk_at "zz"
  rw [law_parsed_spec ha h.len, there h.ok]
  walk_at "zz"
  rw [show ixD (outP (lineOf k) (some k)) (.int 0) = some (dS (codes "command")) from rfl]
  walk_at "zz"
  rw [eq_S (by decide) (by decide), decide_eq_true rfl]
  walk_at "zz"
  rw [show ixD (outP (lineOf k) (some k)) (.int 1) = some (cmdD k) from rfl]
  walk_at "zz"
  rw [alike_spec (cmd_plain h ha)]
  walk_at "zz"
theorem judged_spec {c : Cs} {a : L} (ha : asc a = true) (hl : a.length ≤ 500) : g_law_judged c [dS a] = some (.v (.bl true)) := by
  unfold g_law_judged t_law_judged
  walk_at "zz"
  rw [law_reading_is ha (by omega)]
  walk_at "zz"
  cases h : rdCmd a with
  | some k =>
    have e := back h
    have hk : CmdSm k := ⟨rd_ok h hl, by rw [e]; omega⟩
    walk_at "zz"
    rw [← e, show oD cmdD (some k) = cmdD k from rfl]
    rw [there_and_back_spec hk (by rw [e]; exact ha)]
    walk_at "zz"
  | none =>
    walk_at "zz"
    rw [law_parsed_spec ha (by omega), h]
    walk_at "zz"
    rw [show ixD (outP a none) (.int 0) = some (dS (codes "refused")) from rfl]
    walk_at "zz"
    rw [ne_S (by decide) (by decide), decide_eq_true rfl]
    walk_at "zz"
    rw [show ixD (outP a none) (.int 2) = some (.bl true) from rfl]
    walk_at "zz"
    rw [show ixD (outP a none) (.int 1) = some (dS a) from rfl]
    walk_at "zz"
    rw [show ixD (outP a none) (.int 1) = some (dS a) from rfl]
    show outW (apRet (eqD (dS a) (dS a))) = _
    rw [eq_S ha ha, decide_eq_true rfl]
    rfl
end Y
end

section
set_option Elab.async false
set_option linter.all false
set_option maxRecDepth 100000
set_option maxHeartbeats 4000000
/-! The law's texts, names and odd parts. -/
namespace Y
open L2 Zk Zc Zj Zd Rk
open PySem hiding wordsOf Tok
local macro_rules | `(tactic| walk_at "zs") => `(tactic| simp only [beq_self_eq_true, Bool.or_false, Bool.false_or, Bool.true_or, Bool.or_true, Bool.and_false, Bool.false_and, Bool.true_and, Bool.and_true, Zc.isi_ii, Zc.isi_ib, Zc.isi_tt, Zc.isi_ll, Zc.rowsT_len, Zc.rowsL_len, Zc.is_integer_call, Zc.ix_p0, Zc.ix_p1, dgTup2_a, dgTup3_a, Bool.not_true, Bool.not_false, mul_lz, List.flatten_cons, List.flatten_nil, Int.reduceToNat, add_ll, pow10_12, pow10_18, pow10_39, pow10_41, pow10_59, pow10_60, mkLst_some, mkTup_some, List.length_cons, List.length_nil, Nat.zero_le, Nat.reduceAdd, Nat.reduceLeDiff, call1, callO1, call2, callO2, call3, callO3, call4, callO4, call5, callO5, call6, callO6, ap1_some, ap2_some, apN_some, apC_some, d1_a, d2_a, dN_a, aNil_a, aCons_a, dC_a, dVar_z, dVar_s, tDt_a, apAnd_t, apAnd_f, apOr_t, apOr_f, dAndT_a, dOrT_a, apNot_some, dNotT_a, apAndV_t, apAndV_f, dAndV_a, apOrV_t, apOrV_f, dOrV_a, apIf_t, apIf_f, dIf_a, apCh_t, apCh_f, apChain_some, dChain_a, apSeq_nx, apSeq_rt, apSeq_ct, apSeq_bk, sSeq_a, apIfS_t, apIfS_f, sIf_a, sNext_a, sCont_a, sBreak_a, apRet_some, sRet_a, apRetO_some, sRetO_a, sRetN_a, getO_z, getO_s, apRetV_some, sRetV_a, ltB_z, ltB_s, okSlot_s, apAsg_some, sAsg_a, dName_ok, apG_some, dgCons_a, dgNil_a, apAsgO_some, sAsgO_a, sApp_a, sSetI_a, apFor_some, sFor_a, dItems_a, dRng1_a, dRng2_a, apEn_some, apEn_tup, dEnum_a, sFrz_a, frzs_nil, frzs_cons, frzI_o, frzI_v, frzI_n, frzI_s, frz1_s, frzAll_nil, frzAll_o, frzAll_v, frzAll_n, peekT_a, apPk_int, apPk_bl, apPk_str, apPk_non, peekF_a, dCall_a, toO_o, dCallO_a, dMake_a, Wd_v, Wd_o, dSl_a, apSl_some, oNone_a, oSome_a, apO_some, add_ii, sub_ii, lt_ii, le_ii, gt_ii, ge_ii, eq_ii, ne_ii, neg_i, not_b, bl_b, tru_b, tru_i, tru_l, tru_t, tru_n, len_l, len_t, len_scr, abs_i, int_i, list_l, list_t, tuple_l, tuple_t, min_ii, max_ii, rev_l, items_l, items_t, iL_len, run_a, outW_rt, outW_nx, List.map_cons, List.map_nil, List.replicate, List.append_nil, List.cons_append, List.nil_append, List.set_cons_zero, List.set_cons_succ, Option.map_some])
local macro_rules | `(tactic| walk_at "zd") => `(tactic| first | ((with_reducible show okSlot _ _ = true); simp only [okSlot_s, ltB_z, ltB_s]; done) | omega | assumption | decide | (simp only [List.length_map, List.length_append, List.length_cons, List.length_nil, List.length_range, List.length_set, List.length_reverse, iL_len, Zc.rowsT_len, Zc.rowsL_len] at *; omega))
local macro_rules | `(tactic| walk_at "zz") => `(tactic| simp (disch := walk_at "zd") only [dgTup2_a, dgTup3_a, Bool.not_true, Bool.not_false, mul_lz, List.flatten_cons, List.flatten_nil, Int.reduceToNat, add_ll, pow10_12, pow10_18, pow10_39, pow10_41, pow10_59, pow10_60, mkLst_some, mkTup_some, List.length_cons, List.length_nil, Nat.zero_le, Nat.reduceAdd, Nat.reduceLeDiff, call1, callO1, call2, callO2, call3, callO3, call4, callO4, call5, callO5, call6, callO6, ap1_some, ap2_some, apN_some, apC_some, d1_a, d2_a, dN_a, aNil_a, aCons_a, dC_a, dVar_z, dVar_s, tDt_a, apAnd_t, apAnd_f, apOr_t, apOr_f, dAndT_a, dOrT_a, apNot_some, dNotT_a, apAndV_t, apAndV_f, dAndV_a, apOrV_t, apOrV_f, dOrV_a, apIf_t, apIf_f, dIf_a, apCh_t, apCh_f, apChain_some, dChain_a, apSeq_nx, apSeq_rt, apSeq_ct, apSeq_bk, sSeq_a, apIfS_t, apIfS_f, sIf_a, sNext_a, sCont_a, sBreak_a, apRet_some, sRet_a, apRetO_some, sRetO_a, sRetN_a, getO_z, getO_s, apRetV_some, sRetV_a, ltB_z, ltB_s, okSlot_s, apAsg_some, sAsg_a, dName_ok, apG_some, dgCons_a, dgNil_a, apAsgO_some, sAsgO_a, sApp_a, sSetI_a, apFor_some, sFor_a, dItems_a, dRng1_a, dRng2_a, apEn_some, apEn_tup, dEnum_a, sFrz_a, frzs_nil, frzs_cons, frzI_o, frzI_v, frzI_n, frzI_s, frz1_s, frzAll_nil, frzAll_o, frzAll_v, frzAll_n, peekT_a, apPk_int, apPk_bl, apPk_str, apPk_non, peekF_a, dCall_a, toO_o, dCallO_a, dMake_a, Wd_v, Wd_o, dSl_a, apSl_some, oNone_a, oSome_a, apO_some, add_ii, sub_ii, lt_ii, le_ii, gt_ii, ge_ii, eq_ii, ne_ii, neg_i, not_b, bl_b, tru_b, tru_i, tru_l, tru_t, tru_n, len_l, len_t, len_scr, abs_i, int_i, list_l, list_t, tuple_l, tuple_t, min_ii, max_ii, rev_l, items_l, items_t, iL_len, run_a, outW_rt, outW_nx, List.map_cons, List.map_nil, List.replicate, List.append_nil, List.cons_append, List.nil_append, List.set_cons_zero, List.set_cons_succ, Option.map_some, Int.reduceAdd, Int.reduceMul, Int.reduceSub, Int.reduceNeg, beq_self_eq_true, Bool.or_false, Bool.false_or, Bool.true_or, Bool.or_true, Bool.and_false, Bool.false_and, Bool.true_and, Bool.and_true, Zc.isi_ii, Zc.isi_ib, Zc.isi_tt, Zc.isi_ll, Zc.rowsT_len, Zc.rowsL_len, Zc.is_integer_call, Zc.ix_p0, Zc.ix_p1, apR1_any, Int.toNat_natCast, apR2_some, mod_ii, fdiv_ii, mul_small, apApp_some, ix_at, ix_atT, ix_atI, ix_atIT, ix_atR, ix_atRT, List.length_map, List.length_append, List.length_range, List.length_set, Option.map_none, Option.map_map, decide_true, decide_false, peekO_a, apPkO_i, frz_wo, frz_wv, frz_kk, wipeG_nil, wipeG_cons, orB_s, orB_t, orB_f, andB_s, andB_t, andB_f, orV_s, orV_t, orV_f, andV_s, andV_t, andV_f, apOr_b, apAnd_b, apOrV_b, apAndV_b, apCh_b, Zc.cut_from, Zc.cut_to, in_l, in_t, in_pr, eq_op_op, eq_op_pr, eq_pr_op, eq_pr_pr, ne_op_op, ne_op_pr, ne_pr_op, ne_pr_pr, isnt_op, is_op, pr_0, pr_1, st_0, st_1, inP_pr, ninP_pr, nin_l, isi_prt, len_pr, op_some, prD_eq, ix_lit2, ix_lit3, ix_lit4, ix_lit5, ix_lit6, ix_lit7, ix_lit8, ix_lit9, ix_lit10, ix_lit11, ix_lit12, ix_lit13, ix_lit14, ix_lit15, setI_i, setI_p, setI_o, setI_n, snoc_i, snoc_r, snoc_p, snoc_n, snoc_o, snoc_pp, snoc_s, eq_ol, ne_ol, eq_pl, ne_pl, eq_sl, ne_sl, eq_il, ne_il, eq_rl, ne_rl, eq_il1, isi_bb, eq_bb, ne_bb, eq_self, lit, dM1_a, apM1_S, dM0_a, apM0_S, Bool.not_true, Bool.not_false, is_tn, is_nn, is_ln, dTxt_a, apTxt_S, Int.reduceBEq, ca, cz, c0, c9, cComma, cEq, cCol, cSl, cSemi, cSp, dZip_a, apZip_l, is_num1, List.isEmpty_nil, List.isEmpty_cons, Bool.false_eq_true, reduceIte, Option.isNone_none, Option.isNone_some, in_alones, in_nameds, get_num, ix4_0, ix4_1, ix4_2, ix4_3, dSlS_w, apSl_s, in_al, in_na, in_tw, dXf1, dIs1, look_text, is_o, isnt_o, isi_st, isi_stt, isi_is, isi_itt, isi_ts, Rk.isi_tt, Rk.isi_call, isi_c31])
local macro_rules | `(tactic| walk_at "zf") => `(tactic| first | (walk_at "zz"; done) | (walk_at "zz"; rfl) | rfl)
local macro_rules | `(tactic| walk_at "lc") => `(tactic| ((case hf => rfl); (case hi => first | (walk_at "zz"; done) | (walk_at "zz"; rfl) | rfl); (case hl => walk_at "zd"); (case h => (intro a ha; refine ⟨_, dName_ok rfl, ?_, fun hT => ?_⟩ <;> walk_at "zz" <;> rfl))))
local macro_rules | `(tactic| walk_at "lm") => `(tactic| ((case hf => rfl); (case hi => first | (walk_at "zz"; done) | (walk_at "zz"; rfl) | rfl); (case hl => walk_at "zd"); (case h => (intro a ha; refine ⟨_, dName_ok rfl, ?_⟩; walk_at "zz"; rfl))))
theorem sign_any (p : Int) : ∃ c, g_law_sign [.int p] = some (.v (dS [c])) ∧ c < 128 ∧ c ≠ 10 := by
  have h0 : 0 ≤ p % 94 := Int.emod_nonneg _ (by decide)
  have h1 : p % 94 < 94 := Int.emod_lt_of_pos _ (by decide)
  refine ⟨signsL.getD (p % 94).toNat 0, ?_, signs_ok (p % 94).toNat (by omega)⟩
  unfold g_law_sign t_law_sign
  walk_at "zz"
  rw [add_S (by decide)]
  walk_at "zz"
  rw [ixS (by decide) h0 (by show p % 94 < ((94 : Nat) : Int); omega)]
  rfl
theorem text_spec (c : Int) {n : Nat} (hn : n ≤ 320) : ∃ t : L, g_law_text [.int c, .int (n : Int)] = some (.v (dS t)) ∧ t.length = n ∧ ∀ x ∈ t, x < 128 ∧ x ≠ 10 := by
  unfold g_law_text t_law_text
  obtain ⟨w, e, ds, rfl, hb⟩ := Zc.draws_spec c [94, 94, 94, 94, 94, 5] (by intro s hs; simp only [List.mem_cons, List.not_mem_nil, or_false] at hs; omega) (show (6 : Nat) ≤ 1000 by decide)
  have hdl : ds.length = 6 := hb.len
  have b5 := hb.at (k := 5) (s := 5) (by decide) rfl
  walk_at "zz"
  rw [show ([.int 94, .int 94, .int 94, .int 94, .int 94, .int 5] : List D) = iL [94, 94, 94, 94, 94, 5] from rfl, e_law_draws, e]
  walk_at "zz"
  obtain ⟨l, el, hl, hP⟩ := join_rng (it := dRng1 (aCons (dVar 1) aNil)) (te := (dCall 1 (g_law_sign) (aCons (d2 addD (d2 ixD (dVar 2) (d2 modD (dN intD (aCons (d2 mulD (dVar 3) (d2 addD (d2 ixD (dVar 2) (dC (.int 5))) (dC (.int 1)))) aNil)) (dC (.int 5)))) (d2 fdivD (dVar 3) (dC (.int 5)))) aNil))) (g := [some (.v (.int c)), some (.v (.int (n : Int))), some (.v (.lst (iL ds))), none]) (n := n) (m := 3) (by omega) (fun x => x < 128 ∧ x ≠ 10) rfl (by walk_at "zz") fun i hi => by
    have m0 : 0 ≤ (0 + (i : Int)) * (at_ ds 5 + 1) % 5 := Int.emod_nonneg _ (by decide)
    have m1 : (0 + (i : Int)) * (at_ ds 5 + 1) % 5 < 5 := Int.emod_lt_of_pos _ (by decide)
    obtain ⟨k, e, h1⟩ := sign_any (at_ ds ((0 + (i : Int)) * (at_ ds 5 + 1) % 5) + (0 + (i : Int)) / 5)
    refine ⟨_, k, dName_ok rfl, ?_, h1⟩
    have e3 : ixD (.lst (iL ds)) (.int ((0 + (i : Int)) * (at_ ds 5 + 1) % 5)) = some (.int (at_ ds ((0 + (i : Int)) * (at_ ds 5 + 1) % 5))) := ix_at (f := D.int) m0 (by rw [hdl]; omega)
    walk_at "zz"
    rw [e]
    rfl
  rw [el]
  walk_at "zz"
  rw [show SX.S (codes "") = SX.S [] from rfl, join_signs (by omega)]
  exact ⟨l, rfl, hl, hP⟩
theorem pickW {ws : Rk.Ws} {k : Int} (h0 : 0 ≤ k) (h : k < (ws.length : Nat)) : ixD (.tup (ws.map dS)) (.int k) = some (dS (at_ ws k)) ∧ at_ ws k ∈ ws := ⟨ix_atT (f := dS) h0 h, at_mem h0 h⟩
theorem pickL {ws : Rk.Ws} {k : Int} (h0 : 0 ≤ k) (h : k < (ws.length : Nat)) : ixD (.lst (ws.map dS)) (.int k) = some (dS (at_ ws k)) ∧ at_ ws k ∈ ws := ⟨ix_at (f := dS) h0 h, at_mem h0 h⟩
def Odd (w : L) : Prop := asc w = true ∧ w.length ≤ 20
def oddA : Rk.Ws := [codes "", codes "00", codes "01", codes "-1", codes "+1", codes "A", codes "a b", codes "a-", codes "0,", codes ",0", codes "0,,1", codes "0 ", codes " 0", codes "0@1", codes "abcdefghijklm", codes "a.", codes "@", codes ":", codes "1_0", codes "0x1"]
def oddB : Rk.Ws := [codes "", codes " ", codes "put", codes "put ", codes "put :", codes "put a", codes "put a ", codes "put @0:x", codes "put a@:x", codes "put a@0,:x", codes "put a@,0:x", codes "put a@0 1:x", codes "put a@0@1:x", codes "put a@-1:x", codes "put a@01:x", codes "put a@0", codes "put a :x", codes "put  a:x", codes "put:a", codes "Put a:x", codes "puta:x", codes "put a:x\n", codes "put a\n:x", codes "put a@0:\n", codes "read", codes "read ", codes "read a b", codes "read a ", codes " read a", codes "Read a", codes "read  a", codes "reada", codes "erase", codes "erase a a", codes "send 1", codes "send 1 0 0", codes "send 1,0", codes "send one 0", codes "add", codes "drop 1 ", codes "cap 0", codes "lose", codes "lose 0 1", codes "names ", codes "names a", codes "sends 0", codes "mend mend", codes "pack\n", codes "packs", codes "NAMES", codes "name", codes "\n", codes "sends\n", codes "cap 0 1 2", codes "add 1 01"]
def oddC : Rk.Ws := [codes "", codes "00", codes "01", codes "-1", codes "0,", codes ",0", codes "0,,1", codes "0, 1", codes " 0", codes "0 ", codes "0@1", codes "+1", codes "a", codes "1_0"]
theorem oddA_ok : ∀ w ∈ oddA, asc w = true ∧ w.length ≤ 20 := by decide +kernel
theorem oddB_ok : ∀ w ∈ oddB, asc w = true ∧ w.length ≤ 20 := by decide +kernel
theorem oddC_ok : ∀ w ∈ oddC, asc w = true ∧ w.length ≤ 20 := by decide +kernel
theorem odd_part_spec (n : Int) : ∃ w, g_law_odd_part [.int n] = some (.v (dS w)) ∧ Odd w := by
  unfold g_law_odd_part t_law_odd_part
  walk_at "zz"
  obtain ⟨e, hm⟩ := pickL (ws := oddA) (k := n % ((20 : Nat) : Int)) (Int.emod_nonneg _ (by decide)) (by show _ < ((20 : Nat) : Int); exact Int.emod_lt_of_pos _ (by decide))
  refine ⟨_, ?_, oddA_ok _ hm⟩
  exact (congrArg (fun z => outW (apRet z)) e).trans rfl
theorem odd_line_spec (n : Int) : ∃ w, g_law_odd_line [.int n] = some (.v (dS w)) ∧ Odd w := by
  unfold g_law_odd_line t_law_odd_line
  walk_at "zz"
  obtain ⟨e, hm⟩ := pickL (ws := oddB) (k := n % ((55 : Nat) : Int)) (Int.emod_nonneg _ (by decide)) (by show _ < ((55 : Nat) : Int); exact Int.emod_lt_of_pos _ (by decide))
  refine ⟨_, ?_, oddB_ok _ hm⟩
  exact (congrArg (fun z => outW (apRet z)) e).trans rfl
theorem odd_seats_spec (n : Int) {o : L} (h : Odd o) : ∃ w, g_law_odd_seats [.int n, dS o] = some (.v (dS w)) ∧ Odd w := by
  unfold g_law_odd_seats t_law_odd_seats
  walk_at "zz"
  obtain ⟨e, hm⟩ := pickL (ws := oddC ++ [o]) (k := n % 15) (Int.emod_nonneg _ (by decide)) (by show _ < ((15 : Nat) : Int); exact Int.emod_lt_of_pos _ (by decide))
  refine ⟨_, (congrArg (fun z => outW (apRet z)) e).trans rfl, ?_⟩
  rcases List.mem_append.mp hm with hm | hm
  · exact oddC_ok _ hm
  · rw [List.mem_singleton.mp hm]
    exact h
end Y
end

section
set_option Elab.async false
set_option linter.all false
set_option maxRecDepth 100000
set_option maxHeartbeats 4000000
/-! The law's commands. -/
namespace Y
open L2 Zk Zc Zj Zd Rk
open PySem hiding wordsOf Tok
local macro_rules | `(tactic| walk_at "zs") => `(tactic| simp only [beq_self_eq_true, Bool.or_false, Bool.false_or, Bool.true_or, Bool.or_true, Bool.and_false, Bool.false_and, Bool.true_and, Bool.and_true, Zc.isi_ii, Zc.isi_ib, Zc.isi_tt, Zc.isi_ll, Zc.rowsT_len, Zc.rowsL_len, Zc.is_integer_call, Zc.ix_p0, Zc.ix_p1, dgTup2_a, dgTup3_a, Bool.not_true, Bool.not_false, mul_lz, List.flatten_cons, List.flatten_nil, Int.reduceToNat, add_ll, pow10_12, pow10_18, pow10_39, pow10_41, pow10_59, pow10_60, mkLst_some, mkTup_some, List.length_cons, List.length_nil, Nat.zero_le, Nat.reduceAdd, Nat.reduceLeDiff, call1, callO1, call2, callO2, call3, callO3, call4, callO4, call5, callO5, call6, callO6, ap1_some, ap2_some, apN_some, apC_some, d1_a, d2_a, dN_a, aNil_a, aCons_a, dC_a, dVar_z, dVar_s, tDt_a, apAnd_t, apAnd_f, apOr_t, apOr_f, dAndT_a, dOrT_a, apNot_some, dNotT_a, apAndV_t, apAndV_f, dAndV_a, apOrV_t, apOrV_f, dOrV_a, apIf_t, apIf_f, dIf_a, apCh_t, apCh_f, apChain_some, dChain_a, apSeq_nx, apSeq_rt, apSeq_ct, apSeq_bk, sSeq_a, apIfS_t, apIfS_f, sIf_a, sNext_a, sCont_a, sBreak_a, apRet_some, sRet_a, apRetO_some, sRetO_a, sRetN_a, getO_z, getO_s, apRetV_some, sRetV_a, ltB_z, ltB_s, okSlot_s, apAsg_some, sAsg_a, dName_ok, apG_some, dgCons_a, dgNil_a, apAsgO_some, sAsgO_a, sApp_a, sSetI_a, apFor_some, sFor_a, dItems_a, dRng1_a, dRng2_a, apEn_some, apEn_tup, dEnum_a, sFrz_a, frzs_nil, frzs_cons, frzI_o, frzI_v, frzI_n, frzI_s, frz1_s, frzAll_nil, frzAll_o, frzAll_v, frzAll_n, peekT_a, apPk_int, apPk_bl, apPk_str, apPk_non, peekF_a, dCall_a, toO_o, dCallO_a, dMake_a, Wd_v, Wd_o, dSl_a, apSl_some, oNone_a, oSome_a, apO_some, add_ii, sub_ii, lt_ii, le_ii, gt_ii, ge_ii, eq_ii, ne_ii, neg_i, not_b, bl_b, tru_b, tru_i, tru_l, tru_t, tru_n, len_l, len_t, len_scr, abs_i, int_i, list_l, list_t, tuple_l, tuple_t, min_ii, max_ii, rev_l, items_l, items_t, iL_len, run_a, outW_rt, outW_nx, List.map_cons, List.map_nil, List.replicate, List.append_nil, List.cons_append, List.nil_append, List.set_cons_zero, List.set_cons_succ, Option.map_some])
local macro_rules | `(tactic| walk_at "zd") => `(tactic| first | ((with_reducible show okSlot _ _ = true); simp only [okSlot_s, ltB_z, ltB_s]; done) | omega | assumption | decide | (simp only [List.length_map, List.length_append, List.length_cons, List.length_nil, List.length_range, List.length_set, List.length_reverse, iL_len, Zc.rowsT_len, Zc.rowsL_len] at *; omega))
local macro_rules | `(tactic| walk_at "zz") => `(tactic| simp (disch := walk_at "zd") only [dgTup2_a, dgTup3_a, Bool.not_true, Bool.not_false, mul_lz, List.flatten_cons, List.flatten_nil, Int.reduceToNat, add_ll, pow10_12, pow10_18, pow10_39, pow10_41, pow10_59, pow10_60, mkLst_some, mkTup_some, List.length_cons, List.length_nil, Nat.zero_le, Nat.reduceAdd, Nat.reduceLeDiff, call1, callO1, call2, callO2, call3, callO3, call4, callO4, call5, callO5, call6, callO6, ap1_some, ap2_some, apN_some, apC_some, d1_a, d2_a, dN_a, aNil_a, aCons_a, dC_a, dVar_z, dVar_s, tDt_a, apAnd_t, apAnd_f, apOr_t, apOr_f, dAndT_a, dOrT_a, apNot_some, dNotT_a, apAndV_t, apAndV_f, dAndV_a, apOrV_t, apOrV_f, dOrV_a, apIf_t, apIf_f, dIf_a, apCh_t, apCh_f, apChain_some, dChain_a, apSeq_nx, apSeq_rt, apSeq_ct, apSeq_bk, sSeq_a, apIfS_t, apIfS_f, sIf_a, sNext_a, sCont_a, sBreak_a, apRet_some, sRet_a, apRetO_some, sRetO_a, sRetN_a, getO_z, getO_s, apRetV_some, sRetV_a, ltB_z, ltB_s, okSlot_s, apAsg_some, sAsg_a, dName_ok, apG_some, dgCons_a, dgNil_a, apAsgO_some, sAsgO_a, sApp_a, sSetI_a, apFor_some, sFor_a, dItems_a, dRng1_a, dRng2_a, apEn_some, apEn_tup, dEnum_a, sFrz_a, frzs_nil, frzs_cons, frzI_o, frzI_v, frzI_n, frzI_s, frz1_s, frzAll_nil, frzAll_o, frzAll_v, frzAll_n, peekT_a, apPk_int, apPk_bl, apPk_str, apPk_non, peekF_a, dCall_a, toO_o, dCallO_a, dMake_a, Wd_v, Wd_o, dSl_a, apSl_some, oNone_a, oSome_a, apO_some, add_ii, sub_ii, lt_ii, le_ii, gt_ii, ge_ii, eq_ii, ne_ii, neg_i, not_b, bl_b, tru_b, tru_i, tru_l, tru_t, tru_n, len_l, len_t, len_scr, abs_i, int_i, list_l, list_t, tuple_l, tuple_t, min_ii, max_ii, rev_l, items_l, items_t, iL_len, run_a, outW_rt, outW_nx, List.map_cons, List.map_nil, List.replicate, List.append_nil, List.cons_append, List.nil_append, List.set_cons_zero, List.set_cons_succ, Option.map_some, Int.reduceAdd, Int.reduceMul, Int.reduceSub, Int.reduceNeg, beq_self_eq_true, Bool.or_false, Bool.false_or, Bool.true_or, Bool.or_true, Bool.and_false, Bool.false_and, Bool.true_and, Bool.and_true, Zc.isi_ii, Zc.isi_ib, Zc.isi_tt, Zc.isi_ll, Zc.rowsT_len, Zc.rowsL_len, Zc.is_integer_call, Zc.ix_p0, Zc.ix_p1, apR1_any, Int.toNat_natCast, apR2_some, mod_ii, fdiv_ii, mul_small, apApp_some, ix_at, ix_atT, ix_atI, ix_atIT, ix_atR, ix_atRT, List.length_map, List.length_append, List.length_range, List.length_set, Option.map_none, Option.map_map, decide_true, decide_false, peekO_a, apPkO_i, frz_wo, frz_wv, frz_kk, wipeG_nil, wipeG_cons, orB_s, orB_t, orB_f, andB_s, andB_t, andB_f, orV_s, orV_t, orV_f, andV_s, andV_t, andV_f, apOr_b, apAnd_b, apOrV_b, apAndV_b, apCh_b, Zc.cut_from, Zc.cut_to, in_l, in_t, in_pr, eq_op_op, eq_op_pr, eq_pr_op, eq_pr_pr, ne_op_op, ne_op_pr, ne_pr_op, ne_pr_pr, isnt_op, is_op, pr_0, pr_1, st_0, st_1, inP_pr, ninP_pr, nin_l, isi_prt, len_pr, op_some, prD_eq, ix_lit2, ix_lit3, ix_lit4, ix_lit5, ix_lit6, ix_lit7, ix_lit8, ix_lit9, ix_lit10, ix_lit11, ix_lit12, ix_lit13, ix_lit14, ix_lit15, setI_i, setI_p, setI_o, setI_n, snoc_i, snoc_r, snoc_p, snoc_n, snoc_o, snoc_pp, snoc_s, eq_ol, ne_ol, eq_pl, ne_pl, eq_sl, ne_sl, eq_il, ne_il, eq_rl, ne_rl, eq_il1, isi_bb, eq_bb, ne_bb, eq_self, lit, dM1_a, apM1_S, dM0_a, apM0_S, Bool.not_true, Bool.not_false, is_tn, is_nn, is_ln, dTxt_a, apTxt_S, Int.reduceBEq, ca, cz, c0, c9, cComma, cEq, cCol, cSl, cSemi, cSp, dZip_a, apZip_l, is_num1, List.isEmpty_nil, List.isEmpty_cons, Bool.false_eq_true, reduceIte, Option.isNone_none, Option.isNone_some, in_alones, in_nameds, get_num, ix4_0, ix4_1, ix4_2, ix4_3, dSlS_w, apSl_s, in_al, in_na, in_tw, dXf1, dIs1, look_text, is_o, isnt_o, isi_st, isi_stt, isi_is, isi_itt, isi_ts, Rk.isi_tt, Rk.isi_call, isi_c31])
local macro_rules | `(tactic| walk_at "zf") => `(tactic| first | (walk_at "zz"; done) | (walk_at "zz"; rfl) | rfl)
local macro_rules | `(tactic| walk_at "lc") => `(tactic| ((case hf => rfl); (case hi => first | (walk_at "zz"; done) | (walk_at "zz"; rfl) | rfl); (case hl => walk_at "zd"); (case h => (intro a ha; refine ⟨_, dName_ok rfl, ?_, fun hT => ?_⟩ <;> walk_at "zz" <;> rfl))))
local macro_rules | `(tactic| walk_at "lm") => `(tactic| ((case hf => rfl); (case hi => first | (walk_at "zz"; done) | (walk_at "zz"; rfl) | rfl); (case hl => walk_at "zd"); (case h => (intro a ha; refine ⟨_, dName_ok rfl, ?_⟩; walk_at "zz"; rfl))))
def csz : List Int := [15, 4, 7, 8, 8, 8, 8, 8, 8, 8, 7, 6, 9, 5, 5]
def KW : Rk.Ws := [codes "put", codes "put", codes "put", codes "put", codes "read", codes "erase", codes "send", codes "add", codes "drop", codes "cap", codes "lose", codes "names", codes "sends", codes "mend", codes "pack"]
theorem KW_asc : ∀ w ∈ KW, asc w = true ∧ w.length ≤ 5 := by decide
theorem KW_or : ∀ w ∈ KW, w = codes "put" ∨ w ∈ nameds ∨ w ∈ [codes "send", codes "add", codes "drop"] ∨ w = codes "cap" ∨ w = codes "lose" ∨ w ∈ alones := by decide
def SW : List Int := [0, 1, 2, 3, 4, 5, 11, 25]
theorem SW_ok : ∀ x ∈ SW, 0 ≤ x ∧ x < 30 := by decide
theorem numw {x : Int} (h0 : 0 ≤ x) (h : x < 10 ^ 39) : NumW x := ⟨h0, Int.lt_trans h (by decide)⟩
theorem num2 {x : Int} (h0 : 0 ≤ x) (h : x < 30) : (num x).length ≤ 2 := TL.numL_len (by decide) (by omega)
theorem num39 {x : Int} (h0 : 0 ≤ x) (h : x < 10 ^ 39) : (num x).length ≤ 39 := TL.numL_len (by decide) (by omega)
theorem join_le2 : ∀ ws : Rk.Ws, (∀ w ∈ ws, w.length ≤ 2) → (TL.joinL [44] ws).length ≤ 3 * ws.length
  | [], _ => by simp [TL.joinL]
  | [p], h => by
    have := h p (by simp)
    show p.length ≤ 3 * 1
    omega
  | p :: q :: r, h => by
    have h1 := h p (by simp)
    have h2 := join_le2 (q :: r) fun w m => h w (List.mem_cons_of_mem _ m)
    show (p ++ ([44] ++ TL.joinL [44] (q :: r))).length ≤ _
    rw [List.length_append, List.length_append]
    simp only [List.length_cons, List.length_nil] at h2 ⊢
    omega
structure CmdG (k : Cmd) : Prop where
  ok : CmdOk k
  asc : asc (lineOf k) = true
  len : (lineOf k).length ≤ 400
theorem asc_app {a b : L} (ha : asc a = true) (hb : asc b = true) : asc (a ++ b) = true := List.all_eq_true.mpr fun c m => decide_eq_true ((List.mem_append.mp m).elim (asc_mem ha) (asc_mem hb))
theorem asc_cons {c : Nat} {b : L} (hc : c < 128) (hb : asc b = true) : asc (c :: b) = true := asc_app (a := [c]) (List.all_eq_true.mpr fun x m => decide_eq_true (by rw [List.mem_singleton.mp m]; exact hc)) hb
theorem good_put {n t : L} {a : List Int} (hn : isName n = true) (ha : ∀ x ∈ a, x ∈ SW) (hal : a.length ≤ 7) (ht : asc t = true) (h10 : 10 ∉ t) (htl : t.length ≤ 330) : CmdG (.put n a t) := by
  have hn12 : n.length ≤ 12 := by
    unfold isName at hn
    rw [Bool.and_eq_true, Bool.and_eq_true, decide_eq_true_eq, decide_eq_true_eq] at hn
    omega
  have hj : (joinN a).length ≤ 21 := by
    have := join_le2 (a.map num) fun w m => by
      obtain ⟨x, hx, rfl⟩ := List.mem_map.mp m
      obtain ⟨h0, h1⟩ := SW_ok x (ha x hx)
      exact num2 h0 h1
    rw [List.length_map] at this
    unfold joinN
    omega
  have htn : (tailN a).length ≤ 22 := by
    cases a with
    | nil => exact Nat.zero_le _
    | cons x r => show (joinN (x :: r)).length + 1 ≤ 22; omega
  have hta : asc (tailN a) = true := by
    cases a with
    | nil => rfl
    | cons x r => exact asc_cons (by decide) (okW_asc (okW_joinN _))
  refine ⟨⟨hn, fun x m => ?_, h10⟩, ?_, ?_⟩
  · obtain ⟨h0, h1⟩ := SW_ok x (ha x m)
    exact numw h0 (Int.lt_trans h1 (by decide))
  · exact asc_app (asc_app (asc_app (by decide) (okW_asc (okW_name hn))) hta) (asc_cons (by decide) ht)
  · show (codes "put " ++ n ++ tailN a ++ 58 :: t).length ≤ 400
    have h4 : (codes "put ").length = 4 := by decide
    simp only [List.length_append, List.length_cons, h4]
    omega
theorem good_named {w n : L} (hw : w ∈ nameds) (hn : isName n = true) : CmdG (.named w n) := by
  have hn12 : n.length ≤ 12 := by
    unfold isName at hn
    rw [Bool.and_eq_true, Bool.and_eq_true, decide_eq_true_eq, decide_eq_true_eq] at hn
    omega
  have h : ∀ w ∈ nameds, asc w = true ∧ w.length ≤ 5 := by decide
  obtain ⟨h1, h2⟩ := h w hw
  refine ⟨⟨hw, hn⟩, asc_app h1 (asc_cons (by decide) (okW_asc (okW_name hn))), ?_⟩
  show (w ++ 32 :: n).length ≤ 400
  rw [List.length_append, List.length_cons]
  omega
theorem good_alone {w : L} (hw : w ∈ alones) : CmdG (.alone w) := by
  have h : ∀ w ∈ alones, asc w = true ∧ w.length ≤ 5 := by decide
  obtain ⟨h1, h2⟩ := h w hw
  exact ⟨hw, h1, by show w.length ≤ 400; omega⟩
theorem good_two {w : L} {x y : Int} (hw : w ∈ twos) (hx : 0 ≤ x ∧ x < 10 ^ 39) (hy : 0 ≤ y ∧ y < 10 ^ 39) : CmdG (.nums w [x, y]) := by
  have h : ∀ w ∈ twos, asc w = true ∧ w.length ≤ 5 := by decide
  obtain ⟨h1, h2⟩ := h w hw
  have h3 := num39 hx.1 hx.2
  have h4 := num39 hy.1 hy.2
  refine ⟨⟨(cnt_iff w 2).mpr (.inl ⟨hw, rfl⟩), fun z m => ?_⟩, ?_, ?_⟩
  · simp only [List.mem_cons, List.not_mem_nil, or_false] at m
    rcases m with rfl | rfl
    · exact numw hx.1 hx.2
    · exact numw hy.1 hy.2
  · show asc (w ++ ([32] ++ (num x ++ ([32] ++ num y)))) = true
    exact asc_app h1 (asc_app (by decide) (asc_app (okW_asc (okW_num x)) (asc_app (by decide) (okW_asc (okW_num y)))))
  · show (w ++ 32 :: (num x ++ 32 :: num y)).length ≤ 400
    simp only [List.length_append, List.length_cons]
    omega
theorem good_lose {x : Int} (hx : 0 ≤ x ∧ x < 10 ^ 39) : CmdG (.nums (codes "lose") [x]) := by
  have h3 := num39 hx.1 hx.2
  refine ⟨⟨(cnt_iff _ 1).mpr (.inr ⟨rfl, rfl⟩), fun z m => ?_⟩, ?_, ?_⟩
  · rw [List.mem_singleton.mp m]
    exact numw hx.1 hx.2
  · exact asc_app (by decide) (asc_cons (by decide) (okW_asc (okW_num x)))
  · show (codes "lose" ++ 32 :: num x).length ≤ 400
    have h4 : (codes "lose").length = 4 := by decide
    simp only [List.length_append, List.length_cons, h4]
    omega
theorem law_command_spec {ds : List Int} (hb : Below ds csz) {W : Rk.Ws} (hW : W.length = 4) (hn : ∀ w ∈ W, isName w = true) {t : L} (ht : asc t = true) (h10 : 10 ∉ t) (hl : t.length ≤ 330) (cell : Int) :
    ∃ k, g_law_command [.lst (iL ds), .lst (W.map dS), dS t, .int cell] = some (.v (cmdD k)) ∧ CmdG k := by
  have hdl : ds.length = 15 := hb.len
  have b0 := hb.at (k := 0) (s := 15) (by decide) rfl
  have b1 := hb.at (k := 1) (s := 4) (by decide) rfl
  have b2 := hb.at (k := 2) (s := 7) (by decide) rfl
  have b10 := hb.at (k := 10) (s := 7) (by decide) rfl
  have b11 := hb.at (k := 11) (s := 6) (by decide) rfl
  have bs : ∀ i : Nat, i < 7 → 0 ≤ at_ ds (3 + (i : Int)) ∧ at_ ds (3 + (i : Int)) < 8 := fun i hi => hb.at (k := 3 + (i : Int)) (s := 8) (by omega) (by
    rw [show (3 + (i : Int)).toNat = 3 + i by omega]
    match i, hi with
    | 0, _ => rfl
    | 1, _ => rfl
    | 2, _ => rfl
    | 3, _ => rfl
    | 4, _ => rfl
    | 5, _ => rfl
    | 6, _ => rfl)
  obtain ⟨eK, hK⟩ := pickW (ws := KW) b0.1 (by show _ < ((15 : Nat) : Int); exact b0.2)
  obtain ⟨eN, hN⟩ := pickL (ws := W) b1.1 (by rw [hW]; exact b1.2)
  have hnm := hn _ hN
  have aK := KW_asc _ hK
  unfold g_law_command t_law_command
  walk_at "zz"
  rw [show Zm.catD (D.tup [dS (codes "put"), dS (codes "put"), dS (codes "put"), dS (codes "put"), dS (codes "read"), dS (codes "erase"), dS (codes "send"), dS (codes "add"), dS (codes "drop"), dS (codes "cap"), dS (codes "lose"), dS (codes "names"), dS (codes "sends"), dS (codes "mend")]) (D.tup [dS (codes "pack")]) = some (D.tup (KW.map dS)) from rfl]
  walk_at "zz"
  rw [eK]
  walk_at "zz"
  rewrite [dLc_rngM (n := 7) (F := fun i => D.int (at_ SW (at_ ds (3 + (i : Int)))))]
  case hf => rfl
  case hi => walk_at "zz"
  case hl => omega
  case h =>
    intro i hi
    refine ⟨_, dName_ok rfl, ?_⟩
    obtain ⟨s0, s1⟩ := bs i hi
    have e3 : ixD (.lst (iL ds)) (.int (3 + (i : Int))) = some (.int (at_ ds (3 + (i : Int)))) := ix_at (f := D.int) (by omega) (by rw [hdl]; omega)
    have e4 : ixD (.tup [.int 0, .int 1, .int 2, .int 3, .int 4, .int 5, .int 11, .int 25]) (.int (at_ ds (3 + (i : Int)))) = some (.int (at_ SW (at_ ds (3 + (i : Int))))) := ix_atT (f := D.int) (xs := SW) s0 (by show _ < ((8 : Nat) : Int); exact s1)
    walk_at "zz"
    rfl
  walk_at "zz"
  generalize at_ KW (at_ ds 0) = kd at hK aK ⊢
  generalize at_ W (at_ ds 1) = nm at hN hnm ⊢
  have hZ : ∃ Z : List Int, (List.range 7).map (fun i : Nat => D.int (at_ SW (at_ ds (3 + (i : Int))))) = iL Z ∧ Z.length = 7 ∧ ∀ x ∈ Z, x ∈ SW := by
    refine ⟨(List.range 7).map fun i : Nat => at_ SW (at_ ds (3 + (i : Int))), by unfold iL; rw [List.map_map]; rfl, by simp, fun x m => ?_⟩
    obtain ⟨i, hi, rfl⟩ := List.mem_map.mp m
    obtain ⟨s0, s1⟩ := bs i (List.mem_range.mp hi)
    exact at_mem s0 (by show _ < ((8 : Nat) : Int); exact s1)
  obtain ⟨Z, eZ, hZl, hZm⟩ := hZ
  rw [eZ]
  have hN : 0 ≤ at_ [0, 1, 9, 10, 100, 999999, (if cell < 0 then -cell else cell) % 1000000] (at_ ds 10) ∧ at_ [0, 1, 9, 10, 100, 999999, (if cell < 0 then -cell else cell) % 1000000] (at_ ds 10) < 10 ^ 39 := by
    have m := at_mem (xs := [0, 1, 9, 10, 100, 999999, (if cell < 0 then -cell else cell) % 1000000]) b10.1 (by show _ < ((7 : Nat) : Int); exact b10.2)
    have h0 := Int.emod_nonneg (if cell < 0 then -cell else cell) (show (1000000 : Int) ≠ 0 by decide)
    have h1 := Int.emod_lt_of_pos (if cell < 0 then -cell else cell) (show (0 : Int) < 1000000 by decide)
    generalize at_ [0, 1, 9, 10, 100, 999999, (if cell < 0 then -cell else cell) % 1000000] (at_ ds 10) = v at m ⊢
    generalize (if cell < 0 then -cell else cell) % 1000000 = r at m h0 h1
    have h39 : (1000000 : Int) ≤ 10 ^ 39 := by decide
    simp only [List.mem_cons, List.not_mem_nil, or_false] at m
    generalize (10 : Int) ^ 39 = big at h39 ⊢
    omega
  have hC : 0 ≤ at_ [0, 1, 2, 10, 60, (if cell < 0 then -cell else cell) % 10 ^ 39] (at_ ds 11) ∧ at_ [0, 1, 2, 10, 60, (if cell < 0 then -cell else cell) % 10 ^ 39] (at_ ds 11) < 10 ^ 39 := by
    have h39 : (1000000 : Int) ≤ 10 ^ 39 := by decide
    generalize (10 : Int) ^ 39 = big at h39 ⊢
    have m := at_mem (xs := [0, 1, 2, 10, 60, (if cell < 0 then -cell else cell) % big]) b11.1 (by show _ < ((6 : Nat) : Int); exact b11.2)
    have h0 := Int.emod_nonneg (if cell < 0 then -cell else cell) (show big ≠ 0 by omega)
    have h1 := Int.emod_lt_of_pos (if cell < 0 then -cell else cell) (show (0 : Int) < big by omega)
    generalize at_ [0, 1, 2, 10, 60, (if cell < 0 then -cell else cell) % big] (at_ ds 11) = v at m ⊢
    generalize (if cell < 0 then -cell else cell) % big = r at m h0 h1
    simp only [List.mem_cons, List.not_mem_nil, or_false] at m
    omega
  generalize at_ [0, 1, 9, 10, 100, 999999, (if cell < 0 then -cell else cell) % 1000000] (at_ ds 10) = nu at hN ⊢
  generalize at_ [0, 1, 2, 10, 60, (if cell < 0 then -cell else cell) % 10 ^ 39] (at_ ds 11) = cp at hC ⊢
  have ez : ixD (.lst (iL Z)) (.int 0) = some (.int (at_ Z 0)) := ix_at (f := D.int) (by decide) (by rw [hZl]; decide)
  have hz := hZm _ (at_mem (xs := Z) (k := 0) (by decide) (by rw [hZl]; decide))
  obtain ⟨z0, z1⟩ := SW_ok _ hz
  have hz39 : 0 ≤ at_ Z 0 ∧ at_ Z 0 < 10 ^ 39 := ⟨z0, Int.lt_trans z1 (by decide)⟩
  rw [eq_S aK.1 (by decide)]
  by_cases p : kd = codes "put"
  · rw [decide_eq_true p]
    have m0 := Int.emod_nonneg (at_ ds 0) (show (2 : Int) ≠ 0 by decide)
    have m1 := Int.emod_lt_of_pos (at_ ds 0) (show (0 : Int) < 2 by decide)
    have hm : 0 ≤ at_ ds 0 % 2 * (at_ ds 2 + 1) ∧ at_ ds 0 % 2 * (at_ ds 2 + 1) ≤ 7 := by
      have : at_ ds 0 % 2 = 0 ∨ at_ ds 0 % 2 = 1 := by omega
      rcases this with z | z <;> rw [z] <;> omega
    walk_at "zz"
    obtain ⟨n, hn'⟩ : ∃ n : Nat, at_ ds 0 % 2 * (at_ ds 2 + 1) = (n : Int) := ⟨_, (Int.toNat_of_nonneg hm.1).symm⟩
    rw [hn', Zc.cut_to]
    refine ⟨.put nm (Z.take n) t, ?_, good_put hnm (fun x m => hZm x (List.mem_of_mem_take m)) (by rw [List.length_take]; omega) ht h10 hl⟩
    unfold iL
    rw [← List.map_take]
    rfl
  rw [decide_eq_false p]
  have n_put := p
  walk_at "zz"
  rw [eq_S aK.1 (by decide)]
  clear p
  by_cases p : kd = codes "read"
  · rw [decide_eq_true p]
    walk_at "zz"
    exact ⟨.named kd nm, rfl, good_named (by rw [p]; decide) hnm⟩
  rw [decide_eq_false p]
  have n_read := p
  walk_at "zz"
  rw [eq_S aK.1 (by decide)]
  clear p
  by_cases p : kd = codes "erase"
  · rw [decide_eq_true p]
    walk_at "zz"
    exact ⟨.named kd nm, rfl, good_named (by rw [p]; decide) hnm⟩
  rw [decide_eq_false p]
  have n_erase := p
  walk_at "zz"
  rw [eq_S aK.1 (by decide)]
  clear p
  by_cases p : kd = codes "send"
  · rw [decide_eq_true p]
    walk_at "zz"
    exact ⟨.nums kd [nu, at_ Z 0], rfl, good_two (by rw [p]; decide) hN hz39⟩
  rw [decide_eq_false p]
  have n_send := p
  walk_at "zz"
  rw [eq_S aK.1 (by decide)]
  clear p
  by_cases p : kd = codes "add"
  · rw [decide_eq_true p]
    walk_at "zz"
    exact ⟨.nums kd [nu, at_ Z 0], rfl, good_two (by rw [p]; decide) hN hz39⟩
  rw [decide_eq_false p]
  have n_add := p
  walk_at "zz"
  rw [eq_S aK.1 (by decide)]
  clear p
  by_cases p : kd = codes "drop"
  · rw [decide_eq_true p]
    walk_at "zz"
    exact ⟨.nums kd [nu, at_ Z 0], rfl, good_two (by rw [p]; decide) hN hz39⟩
  rw [decide_eq_false p]
  have n_drop := p
  walk_at "zz"
  rw [eq_S aK.1 (by decide)]
  clear p
  by_cases p : kd = codes "cap"
  · rw [decide_eq_true p]
    walk_at "zz"
    exact ⟨.nums (codes "cap") [at_ Z 0, cp], rfl, good_two (by decide) hz39 hC⟩
  rw [decide_eq_false p]
  have n_cap := p
  walk_at "zz"
  rw [eq_S aK.1 (by decide)]
  clear p
  by_cases p : kd = codes "lose"
  · rw [decide_eq_true p]
    walk_at "zz"
    exact ⟨.nums (codes "lose") [at_ Z 0], rfl, good_lose hz39⟩
  rw [decide_eq_false p]
  walk_at "zz"
  refine ⟨.alone kd, rfl, good_alone ?_⟩
  rcases KW_or kd hK with z | z | z | z | z | z
  · exact absurd z n_put
  · simp only [nameds, List.mem_cons, List.not_mem_nil, or_false] at z
    rcases z with z | z
    · exact absurd z n_read
    · exact absurd z n_erase
  · simp only [List.mem_cons, List.not_mem_nil, or_false] at z
    rcases z with z | z | z
    · exact absurd z n_send
    · exact absurd z n_add
    · exact absurd z n_drop
  · exact absurd z n_cap
  · exact absurd z p
  · exact z
end Y
end

section
set_option Elab.async false
set_option linter.all false
set_option maxRecDepth 100000
set_option maxHeartbeats 4000000
/-! The law's other lines. -/
namespace Y
open L2 Zk Zc Zj Zd Rk
open PySem hiding wordsOf Tok
local macro_rules | `(tactic| walk_at "zs") => `(tactic| simp only [beq_self_eq_true, Bool.or_false, Bool.false_or, Bool.true_or, Bool.or_true, Bool.and_false, Bool.false_and, Bool.true_and, Bool.and_true, Zc.isi_ii, Zc.isi_ib, Zc.isi_tt, Zc.isi_ll, Zc.rowsT_len, Zc.rowsL_len, Zc.is_integer_call, Zc.ix_p0, Zc.ix_p1, dgTup2_a, dgTup3_a, Bool.not_true, Bool.not_false, mul_lz, List.flatten_cons, List.flatten_nil, Int.reduceToNat, add_ll, pow10_12, pow10_18, pow10_39, pow10_41, pow10_59, pow10_60, mkLst_some, mkTup_some, List.length_cons, List.length_nil, Nat.zero_le, Nat.reduceAdd, Nat.reduceLeDiff, call1, callO1, call2, callO2, call3, callO3, call4, callO4, call5, callO5, call6, callO6, ap1_some, ap2_some, apN_some, apC_some, d1_a, d2_a, dN_a, aNil_a, aCons_a, dC_a, dVar_z, dVar_s, tDt_a, apAnd_t, apAnd_f, apOr_t, apOr_f, dAndT_a, dOrT_a, apNot_some, dNotT_a, apAndV_t, apAndV_f, dAndV_a, apOrV_t, apOrV_f, dOrV_a, apIf_t, apIf_f, dIf_a, apCh_t, apCh_f, apChain_some, dChain_a, apSeq_nx, apSeq_rt, apSeq_ct, apSeq_bk, sSeq_a, apIfS_t, apIfS_f, sIf_a, sNext_a, sCont_a, sBreak_a, apRet_some, sRet_a, apRetO_some, sRetO_a, sRetN_a, getO_z, getO_s, apRetV_some, sRetV_a, ltB_z, ltB_s, okSlot_s, apAsg_some, sAsg_a, dName_ok, apG_some, dgCons_a, dgNil_a, apAsgO_some, sAsgO_a, sApp_a, sSetI_a, apFor_some, sFor_a, dItems_a, dRng1_a, dRng2_a, apEn_some, apEn_tup, dEnum_a, sFrz_a, frzs_nil, frzs_cons, frzI_o, frzI_v, frzI_n, frzI_s, frz1_s, frzAll_nil, frzAll_o, frzAll_v, frzAll_n, peekT_a, apPk_int, apPk_bl, apPk_str, apPk_non, peekF_a, dCall_a, toO_o, dCallO_a, dMake_a, Wd_v, Wd_o, dSl_a, apSl_some, oNone_a, oSome_a, apO_some, add_ii, sub_ii, lt_ii, le_ii, gt_ii, ge_ii, eq_ii, ne_ii, neg_i, not_b, bl_b, tru_b, tru_i, tru_l, tru_t, tru_n, len_l, len_t, len_scr, abs_i, int_i, list_l, list_t, tuple_l, tuple_t, min_ii, max_ii, rev_l, items_l, items_t, iL_len, run_a, outW_rt, outW_nx, List.map_cons, List.map_nil, List.replicate, List.append_nil, List.cons_append, List.nil_append, List.set_cons_zero, List.set_cons_succ, Option.map_some])
local macro_rules | `(tactic| walk_at "zd") => `(tactic| first | ((with_reducible show okSlot _ _ = true); simp only [okSlot_s, ltB_z, ltB_s]; done) | omega | assumption | decide | (simp only [List.length_map, List.length_append, List.length_cons, List.length_nil, List.length_range, List.length_set, List.length_reverse, iL_len, Zc.rowsT_len, Zc.rowsL_len] at *; omega))
local macro_rules | `(tactic| walk_at "zz") => `(tactic| simp (disch := walk_at "zd") only [dgTup2_a, dgTup3_a, Bool.not_true, Bool.not_false, mul_lz, List.flatten_cons, List.flatten_nil, Int.reduceToNat, add_ll, pow10_12, pow10_18, pow10_39, pow10_41, pow10_59, pow10_60, mkLst_some, mkTup_some, List.length_cons, List.length_nil, Nat.zero_le, Nat.reduceAdd, Nat.reduceLeDiff, call1, callO1, call2, callO2, call3, callO3, call4, callO4, call5, callO5, call6, callO6, ap1_some, ap2_some, apN_some, apC_some, d1_a, d2_a, dN_a, aNil_a, aCons_a, dC_a, dVar_z, dVar_s, tDt_a, apAnd_t, apAnd_f, apOr_t, apOr_f, dAndT_a, dOrT_a, apNot_some, dNotT_a, apAndV_t, apAndV_f, dAndV_a, apOrV_t, apOrV_f, dOrV_a, apIf_t, apIf_f, dIf_a, apCh_t, apCh_f, apChain_some, dChain_a, apSeq_nx, apSeq_rt, apSeq_ct, apSeq_bk, sSeq_a, apIfS_t, apIfS_f, sIf_a, sNext_a, sCont_a, sBreak_a, apRet_some, sRet_a, apRetO_some, sRetO_a, sRetN_a, getO_z, getO_s, apRetV_some, sRetV_a, ltB_z, ltB_s, okSlot_s, apAsg_some, sAsg_a, dName_ok, apG_some, dgCons_a, dgNil_a, apAsgO_some, sAsgO_a, sApp_a, sSetI_a, apFor_some, sFor_a, dItems_a, dRng1_a, dRng2_a, apEn_some, apEn_tup, dEnum_a, sFrz_a, frzs_nil, frzs_cons, frzI_o, frzI_v, frzI_n, frzI_s, frz1_s, frzAll_nil, frzAll_o, frzAll_v, frzAll_n, peekT_a, apPk_int, apPk_bl, apPk_str, apPk_non, peekF_a, dCall_a, toO_o, dCallO_a, dMake_a, Wd_v, Wd_o, dSl_a, apSl_some, oNone_a, oSome_a, apO_some, add_ii, sub_ii, lt_ii, le_ii, gt_ii, ge_ii, eq_ii, ne_ii, neg_i, not_b, bl_b, tru_b, tru_i, tru_l, tru_t, tru_n, len_l, len_t, len_scr, abs_i, int_i, list_l, list_t, tuple_l, tuple_t, min_ii, max_ii, rev_l, items_l, items_t, iL_len, run_a, outW_rt, outW_nx, List.map_cons, List.map_nil, List.replicate, List.append_nil, List.cons_append, List.nil_append, List.set_cons_zero, List.set_cons_succ, Option.map_some, Int.reduceAdd, Int.reduceMul, Int.reduceSub, Int.reduceNeg, beq_self_eq_true, Bool.or_false, Bool.false_or, Bool.true_or, Bool.or_true, Bool.and_false, Bool.false_and, Bool.true_and, Bool.and_true, Zc.isi_ii, Zc.isi_ib, Zc.isi_tt, Zc.isi_ll, Zc.rowsT_len, Zc.rowsL_len, Zc.is_integer_call, Zc.ix_p0, Zc.ix_p1, apR1_any, Int.toNat_natCast, apR2_some, mod_ii, fdiv_ii, mul_small, apApp_some, ix_at, ix_atT, ix_atI, ix_atIT, ix_atR, ix_atRT, List.length_map, List.length_append, List.length_range, List.length_set, Option.map_none, Option.map_map, decide_true, decide_false, peekO_a, apPkO_i, frz_wo, frz_wv, frz_kk, wipeG_nil, wipeG_cons, orB_s, orB_t, orB_f, andB_s, andB_t, andB_f, orV_s, orV_t, orV_f, andV_s, andV_t, andV_f, apOr_b, apAnd_b, apOrV_b, apAndV_b, apCh_b, Zc.cut_from, Zc.cut_to, in_l, in_t, in_pr, eq_op_op, eq_op_pr, eq_pr_op, eq_pr_pr, ne_op_op, ne_op_pr, ne_pr_op, ne_pr_pr, isnt_op, is_op, pr_0, pr_1, st_0, st_1, inP_pr, ninP_pr, nin_l, isi_prt, len_pr, op_some, prD_eq, ix_lit2, ix_lit3, ix_lit4, ix_lit5, ix_lit6, ix_lit7, ix_lit8, ix_lit9, ix_lit10, ix_lit11, ix_lit12, ix_lit13, ix_lit14, ix_lit15, setI_i, setI_p, setI_o, setI_n, snoc_i, snoc_r, snoc_p, snoc_n, snoc_o, snoc_pp, snoc_s, eq_ol, ne_ol, eq_pl, ne_pl, eq_sl, ne_sl, eq_il, ne_il, eq_rl, ne_rl, eq_il1, isi_bb, eq_bb, ne_bb, eq_self, lit, dM1_a, apM1_S, dM0_a, apM0_S, Bool.not_true, Bool.not_false, is_tn, is_nn, is_ln, dTxt_a, apTxt_S, Int.reduceBEq, ca, cz, c0, c9, cComma, cEq, cCol, cSl, cSemi, cSp, dZip_a, apZip_l, is_num1, List.isEmpty_nil, List.isEmpty_cons, Bool.false_eq_true, reduceIte, Option.isNone_none, Option.isNone_some, in_alones, in_nameds, get_num, ix4_0, ix4_1, ix4_2, ix4_3, dSlS_w, apSl_s, in_al, in_na, in_tw, dXf1, dIs1, look_text, is_o, isnt_o, isi_st, isi_stt, isi_is, isi_itt, isi_ts, Rk.isi_tt, Rk.isi_call, isi_c31])
local macro_rules | `(tactic| walk_at "zf") => `(tactic| first | (walk_at "zz"; done) | (walk_at "zz"; rfl) | rfl)
local macro_rules | `(tactic| walk_at "lc") => `(tactic| ((case hf => rfl); (case hi => first | (walk_at "zz"; done) | (walk_at "zz"; rfl) | rfl); (case hl => walk_at "zd"); (case h => (intro a ha; refine ⟨_, dName_ok rfl, ?_, fun hT => ?_⟩ <;> walk_at "zz" <;> rfl))))
local macro_rules | `(tactic| walk_at "lm") => `(tactic| ((case hf => rfl); (case hi => first | (walk_at "zz"; done) | (walk_at "zz"; rfl) | rfl); (case hl => walk_at "zd"); (case h => (intro a ha; refine ⟨_, dName_ok rfl, ?_⟩; walk_at "zz"; rfl))))
def Fine (s : L) : Prop := asc s = true ∧ s.length ≤ 500
theorem len_joinU : ∀ ws : Rk.Ws, (TL.joinL [32] ws).length ≤ (ws.map List.length).sum + ws.length
  | [] => by simp [TL.joinL]
  | [p] => by show p.length ≤ p.length + 0 + 1; omega
  | p :: q :: r => by
    have h := len_joinU (q :: r)
    show (p ++ ([32] ++ TL.joinL [32] (q :: r))).length ≤ p.length + ((q :: r).map List.length).sum + ((q :: r).length + 1)
    rw [List.length_append, List.length_append, List.length_singleton]
    omega
theorem sum_set : ∀ (ws : Rk.Ws) (j : Nat) (w : L), ((ws.set j w).map List.length).sum ≤ (ws.map List.length).sum + w.length
  | [], j, w => by simp
  | p :: r, 0, w => by simp; omega
  | p :: r, j + 1, w => by
    have := sum_set r j w
    simp only [List.set_cons_succ, List.map_cons, List.sum_cons]
    omega
theorem sum_drop : ∀ (ws : Rk.Ws), ((ws.drop 1).map List.length).sum ≤ (ws.map List.length).sum
  | [] => by simp
  | p :: r => by simp
theorem J_self (a : L) : TL.joinL [32] (sp 32 a) = a := J_sp 32 a.length a (Nat.le_refl _)
theorem asc_J {ws : Rk.Ws} (h : ∀ w ∈ ws, asc w = true) : asc (TL.joinL [32] ws) = true := List.all_eq_true.mpr fun c m => decide_eq_true (by
  rcases joinL_mem m with z | ⟨p, hp, z⟩
  · rw [List.mem_singleton.mp z]; decide
  · exact asc_mem (h p hp) z)
theorem fine_set {a w : L} (ha : asc a = true) (hl : a.length ≤ 400) (h : Odd w) (j : Nat) : Fine (TL.joinL [32] ((sp 32 a).set j w)) := by
  refine ⟨asc_J fun p m => ?_, ?_⟩
  · rcases List.mem_or_eq_of_mem_set m with m | m
    · exact sp_asc ha p m
    · rw [m]; exact h.1
  · have h1 := len_joinU ((sp 32 a).set j w)
    have h2 := sum_set (sp 32 a) j w
    have h3 := len_join1 (sp 32 a)
    have h4 := h.2
    rw [J_self] at h3
    rw [List.length_set] at h1
    omega
theorem asc_take {a : L} (ha : asc a = true) (n : Nat) : asc (a.take n) = true := List.all_eq_true.mpr fun c m => decide_eq_true (asc_mem ha (List.mem_of_mem_take m))
theorem asc_drop {a : L} (ha : asc a = true) (n : Nat) : asc (a.drop n) = true := List.all_eq_true.mpr fun c m => decide_eq_true (asc_mem ha (List.mem_of_mem_drop m))
theorem law_replaced_spec {k : Cmd} (h : CmdG k) {w : L} (ho : Odd w) (which : Int) : ∃ s, g_law_replaced [cmdD k, dS (lineOf k), dS w, .int which] = some (.v (dS s)) ∧ Fine s := by
  obtain ⟨kd, k1, k2, k3⟩ := put_kw k h.ok
  have ha := h.asc
  have hl := h.len
  unfold g_law_replaced t_law_replaced
  walk_at "zz"
  rw [k1]
  walk_at "zz"
  rw [ne_S k2 (by decide)]
  by_cases p : kd = codes "put"
  · rw [decide_eq_true p]
    obtain ⟨n, a, t, rfl⟩ := k3.mp p
    rw [show cmdD (.put n a t) = .tup [dS (codes "put"), dS n, .tup (iL a), dS t] from rfl]
    obtain ⟨hn, hs, h10⟩ := h.ok
    have hn12 : n.length ≤ 12 := by
      unfold isName at hn
      rw [Bool.and_eq_true, Bool.and_eq_true, decide_eq_true_eq, decide_eq_true_eq] at hn
      omega
    have an := okW_asc (okW_name hn)
    have h4 : (codes "put ").length = 4 := by decide
    have hw := ho.2
    have hln : (lineOf (.put n a t)).length = 4 + n.length + (tailN a).length + (t.length + 1) := by
      show (codes "put " ++ n ++ tailN a ++ 58 :: t).length = _
      simp only [List.length_append, List.length_cons, h4]
    have at' : asc t = true := List.all_eq_true.mpr fun c m => decide_eq_true (asc_mem ha (by
      show c ∈ codes "put " ++ n ++ tailN a ++ 58 :: t
      exact List.mem_append_right _ (List.mem_cons_of_mem _ m)))
    generalize lineOf (.put n a t) = s at ha hl hln ⊢
    walk_at "zz"
    rw [add_S (by omega)]
    walk_at "zz"
    have hd := ha
    by_cases q0 : which % 3 = 0
    · rw [show (which % 3 == 0) = true from beq_iff_eq.mpr q0]
      walk_at "zz"
      rw [add_S (by omega)]
      rw [len_S (by simp only [List.length_append, h4]; omega)]
      walk_at "zz"
      rw [sl_from (by omega) (by omega)]
      walk_at "zz"
      rw [add_S (by simp only [List.length_append, List.length_drop, h4]; omega)]
      walk_at "zz"
      refine ⟨_, rfl, asc_app (asc_app (by decide) ho.1) (asc_drop ha _), ?_⟩
      simp only [List.length_append, List.length_drop, h4]
      omega
    rw [show (which % 3 == 0) = false from beq_eq_false_iff_ne.mpr q0]
    walk_at "zz"
    by_cases q1 : which % 3 = 1
    · rw [show (which % 3 == 1) = true from beq_iff_eq.mpr q1]
      walk_at "zz"
      rw [add_S (by simp only [List.length_append, h4]; omega)]
      rw [len_S (by simp only [List.length_append, h4]; omega)]
      walk_at "zz"
      rw [sl_from (by omega) (by omega)]
      walk_at "zz"
      rw [add_S (by simp only [List.length_append, List.length_drop, h4]; omega)]
      walk_at "zz"
      refine ⟨_, rfl, asc_app (asc_app (asc_app (by decide) an) ho.1) (asc_drop ha _), ?_⟩
      simp only [List.length_append, List.length_drop, h4]
      omega
    rw [show (which % 3 == 1) = false from beq_eq_false_iff_ne.mpr q1]
    walk_at "zz"
    obtain ⟨v, ev, hv⟩ := odd_seats_spec (which / 3) ho
    have hv2 := hv.2
    have h1 : (codes "@").length = 1 := by decide
    rw [add_S (by simp only [List.length_append, h4, h1]; omega)]
    rw [ev]
    walk_at "zz"
    rw [add_S (by simp only [List.length_append, h4, h1]; omega)]
    walk_at "zz"
    rw [add_S (by simp only [List.length_append, List.length_cons, List.length_nil, h4, h1]; omega)]
    walk_at "zz"
    trace_state
    rw [add_S (by simp only [List.length_append, List.length_cons, List.length_nil, h4, h1]; omega)]
    walk_at "zz"
    refine ⟨_, rfl, asc_app (asc_app (asc_app (asc_app (asc_app (by decide) an) (by decide)) hv.1) (by decide)) at', ?_⟩
    simp only [List.length_append, List.length_cons, List.length_nil, h4, h1]
    omega
  · rw [decide_eq_false p]
    walk_at "zz"
    generalize lineOf k = a at ha hl ⊢
    rw [sp_S (by decide) (by omega)]
    walk_at "zz"
    have n0 : 0 < (sp 32 a).length := List.length_pos_iff.mpr (sp_ne a)
    have n1 := sp_count (c := 32) a.length a (Nat.le_refl _)
    have j0 := Int.emod_nonneg which (show (((sp 32 a).length : Nat) : Int) ≠ 0 by omega)
    have j1 := Int.emod_lt_of_pos which (show (0 : Int) < (((sp 32 a).length : Nat) : Int) by omega)
    rw [mod_ii (by omega)]
    walk_at "zz"
    generalize which % (((sp 32 a).length : Nat) : Int) = j at j0 j1 ⊢
    rw [setI_at (f := dS) rfl j0 j1]
    walk_at "zz"
    obtain ⟨f1, f2⟩ := fine_set ha hl ho j.toNat
    have f3 := len_join1 ((sp 32 a).set j.toNat w)
    rw [join_S (by rw [List.length_singleton]; omega)]
    walk_at "zz"
    exact ⟨_, rfl, f1, f2⟩
end Y
end

section
set_option Elab.async false
set_option linter.all false
set_option maxRecDepth 100000
set_option maxHeartbeats 4000000
/-! The law's other lines. -/
namespace Y
open L2 Zk Zc Zj Zd Rk
open PySem hiding wordsOf Tok
local macro_rules | `(tactic| walk_at "zs") => `(tactic| simp only [beq_self_eq_true, Bool.or_false, Bool.false_or, Bool.true_or, Bool.or_true, Bool.and_false, Bool.false_and, Bool.true_and, Bool.and_true, Zc.isi_ii, Zc.isi_ib, Zc.isi_tt, Zc.isi_ll, Zc.rowsT_len, Zc.rowsL_len, Zc.is_integer_call, Zc.ix_p0, Zc.ix_p1, dgTup2_a, dgTup3_a, Bool.not_true, Bool.not_false, mul_lz, List.flatten_cons, List.flatten_nil, Int.reduceToNat, add_ll, pow10_12, pow10_18, pow10_39, pow10_41, pow10_59, pow10_60, mkLst_some, mkTup_some, List.length_cons, List.length_nil, Nat.zero_le, Nat.reduceAdd, Nat.reduceLeDiff, call1, callO1, call2, callO2, call3, callO3, call4, callO4, call5, callO5, call6, callO6, ap1_some, ap2_some, apN_some, apC_some, d1_a, d2_a, dN_a, aNil_a, aCons_a, dC_a, dVar_z, dVar_s, tDt_a, apAnd_t, apAnd_f, apOr_t, apOr_f, dAndT_a, dOrT_a, apNot_some, dNotT_a, apAndV_t, apAndV_f, dAndV_a, apOrV_t, apOrV_f, dOrV_a, apIf_t, apIf_f, dIf_a, apCh_t, apCh_f, apChain_some, dChain_a, apSeq_nx, apSeq_rt, apSeq_ct, apSeq_bk, sSeq_a, apIfS_t, apIfS_f, sIf_a, sNext_a, sCont_a, sBreak_a, apRet_some, sRet_a, apRetO_some, sRetO_a, sRetN_a, getO_z, getO_s, apRetV_some, sRetV_a, ltB_z, ltB_s, okSlot_s, apAsg_some, sAsg_a, dName_ok, apG_some, dgCons_a, dgNil_a, apAsgO_some, sAsgO_a, sApp_a, sSetI_a, apFor_some, sFor_a, dItems_a, dRng1_a, dRng2_a, apEn_some, apEn_tup, dEnum_a, sFrz_a, frzs_nil, frzs_cons, frzI_o, frzI_v, frzI_n, frzI_s, frz1_s, frzAll_nil, frzAll_o, frzAll_v, frzAll_n, peekT_a, apPk_int, apPk_bl, apPk_str, apPk_non, peekF_a, dCall_a, toO_o, dCallO_a, dMake_a, Wd_v, Wd_o, dSl_a, apSl_some, oNone_a, oSome_a, apO_some, add_ii, sub_ii, lt_ii, le_ii, gt_ii, ge_ii, eq_ii, ne_ii, neg_i, not_b, bl_b, tru_b, tru_i, tru_l, tru_t, tru_n, len_l, len_t, len_scr, abs_i, int_i, list_l, list_t, tuple_l, tuple_t, min_ii, max_ii, rev_l, items_l, items_t, iL_len, run_a, outW_rt, outW_nx, List.map_cons, List.map_nil, List.replicate, List.append_nil, List.cons_append, List.nil_append, List.set_cons_zero, List.set_cons_succ, Option.map_some])
local macro_rules | `(tactic| walk_at "zd") => `(tactic| first | ((with_reducible show okSlot _ _ = true); simp only [okSlot_s, ltB_z, ltB_s]; done) | omega | assumption | decide | (simp only [List.length_map, List.length_append, List.length_cons, List.length_nil, List.length_range, List.length_set, List.length_reverse, iL_len, Zc.rowsT_len, Zc.rowsL_len] at *; omega))
local macro_rules | `(tactic| walk_at "zz") => `(tactic| simp (disch := walk_at "zd") only [dgTup2_a, dgTup3_a, Bool.not_true, Bool.not_false, mul_lz, List.flatten_cons, List.flatten_nil, Int.reduceToNat, add_ll, pow10_12, pow10_18, pow10_39, pow10_41, pow10_59, pow10_60, mkLst_some, mkTup_some, List.length_cons, List.length_nil, Nat.zero_le, Nat.reduceAdd, Nat.reduceLeDiff, call1, callO1, call2, callO2, call3, callO3, call4, callO4, call5, callO5, call6, callO6, ap1_some, ap2_some, apN_some, apC_some, d1_a, d2_a, dN_a, aNil_a, aCons_a, dC_a, dVar_z, dVar_s, tDt_a, apAnd_t, apAnd_f, apOr_t, apOr_f, dAndT_a, dOrT_a, apNot_some, dNotT_a, apAndV_t, apAndV_f, dAndV_a, apOrV_t, apOrV_f, dOrV_a, apIf_t, apIf_f, dIf_a, apCh_t, apCh_f, apChain_some, dChain_a, apSeq_nx, apSeq_rt, apSeq_ct, apSeq_bk, sSeq_a, apIfS_t, apIfS_f, sIf_a, sNext_a, sCont_a, sBreak_a, apRet_some, sRet_a, apRetO_some, sRetO_a, sRetN_a, getO_z, getO_s, apRetV_some, sRetV_a, ltB_z, ltB_s, okSlot_s, apAsg_some, sAsg_a, dName_ok, apG_some, dgCons_a, dgNil_a, apAsgO_some, sAsgO_a, sApp_a, sSetI_a, apFor_some, sFor_a, dItems_a, dRng1_a, dRng2_a, apEn_some, apEn_tup, dEnum_a, sFrz_a, frzs_nil, frzs_cons, frzI_o, frzI_v, frzI_n, frzI_s, frz1_s, frzAll_nil, frzAll_o, frzAll_v, frzAll_n, peekT_a, apPk_int, apPk_bl, apPk_str, apPk_non, peekF_a, dCall_a, toO_o, dCallO_a, dMake_a, Wd_v, Wd_o, dSl_a, apSl_some, oNone_a, oSome_a, apO_some, add_ii, sub_ii, lt_ii, le_ii, gt_ii, ge_ii, eq_ii, ne_ii, neg_i, not_b, bl_b, tru_b, tru_i, tru_l, tru_t, tru_n, len_l, len_t, len_scr, abs_i, int_i, list_l, list_t, tuple_l, tuple_t, min_ii, max_ii, rev_l, items_l, items_t, iL_len, run_a, outW_rt, outW_nx, List.map_cons, List.map_nil, List.replicate, List.append_nil, List.cons_append, List.nil_append, List.set_cons_zero, List.set_cons_succ, Option.map_some, Int.reduceAdd, Int.reduceMul, Int.reduceSub, Int.reduceNeg, beq_self_eq_true, Bool.or_false, Bool.false_or, Bool.true_or, Bool.or_true, Bool.and_false, Bool.false_and, Bool.true_and, Bool.and_true, Zc.isi_ii, Zc.isi_ib, Zc.isi_tt, Zc.isi_ll, Zc.rowsT_len, Zc.rowsL_len, Zc.is_integer_call, Zc.ix_p0, Zc.ix_p1, apR1_any, Int.toNat_natCast, apR2_some, mod_ii, fdiv_ii, mul_small, apApp_some, ix_at, ix_atT, ix_atI, ix_atIT, ix_atR, ix_atRT, List.length_map, List.length_append, List.length_range, List.length_set, Option.map_none, Option.map_map, decide_true, decide_false, peekO_a, apPkO_i, frz_wo, frz_wv, frz_kk, wipeG_nil, wipeG_cons, orB_s, orB_t, orB_f, andB_s, andB_t, andB_f, orV_s, orV_t, orV_f, andV_s, andV_t, andV_f, apOr_b, apAnd_b, apOrV_b, apAndV_b, apCh_b, Zc.cut_from, Zc.cut_to, in_l, in_t, in_pr, eq_op_op, eq_op_pr, eq_pr_op, eq_pr_pr, ne_op_op, ne_op_pr, ne_pr_op, ne_pr_pr, isnt_op, is_op, pr_0, pr_1, st_0, st_1, inP_pr, ninP_pr, nin_l, isi_prt, len_pr, op_some, prD_eq, ix_lit2, ix_lit3, ix_lit4, ix_lit5, ix_lit6, ix_lit7, ix_lit8, ix_lit9, ix_lit10, ix_lit11, ix_lit12, ix_lit13, ix_lit14, ix_lit15, setI_i, setI_p, setI_o, setI_n, snoc_i, snoc_r, snoc_p, snoc_n, snoc_o, snoc_pp, snoc_s, eq_ol, ne_ol, eq_pl, ne_pl, eq_sl, ne_sl, eq_il, ne_il, eq_rl, ne_rl, eq_il1, isi_bb, eq_bb, ne_bb, eq_self, lit, dM1_a, apM1_S, dM0_a, apM0_S, Bool.not_true, Bool.not_false, is_tn, is_nn, is_ln, dTxt_a, apTxt_S, Int.reduceBEq, ca, cz, c0, c9, cComma, cEq, cCol, cSl, cSemi, cSp, dZip_a, apZip_l, is_num1, List.isEmpty_nil, List.isEmpty_cons, Bool.false_eq_true, reduceIte, Option.isNone_none, Option.isNone_some, in_alones, in_nameds, get_num, ix4_0, ix4_1, ix4_2, ix4_3, dSlS_w, apSl_s, in_al, in_na, in_tw, dXf1, dIs1, look_text, is_o, isnt_o, isi_st, isi_stt, isi_is, isi_itt, isi_ts, Rk.isi_tt, Rk.isi_call, isi_c31])
local macro_rules | `(tactic| walk_at "zf") => `(tactic| first | (walk_at "zz"; done) | (walk_at "zz"; rfl) | rfl)
local macro_rules | `(tactic| walk_at "lc") => `(tactic| ((case hf => rfl); (case hi => first | (walk_at "zz"; done) | (walk_at "zz"; rfl) | rfl); (case hl => walk_at "zd"); (case h => (intro a ha; refine ⟨_, dName_ok rfl, ?_, fun hT => ?_⟩ <;> walk_at "zz" <;> rfl))))
local macro_rules | `(tactic| walk_at "lm") => `(tactic| ((case hf => rfl); (case hi => first | (walk_at "zz"; done) | (walk_at "zz"; rfl) | rfl); (case hl => walk_at "zd"); (case h => (intro a ha; refine ⟨_, dName_ok rfl, ?_⟩; walk_at "zz"; rfl))))
theorem line_pos {k : Cmd} (h : CmdOk k) : 0 < (lineOf k).length := by
  have hn : ∀ w ∈ codes "lose" :: (nameds ++ alones ++ twos), 0 < w.length := by decide
  cases k with
  | put n a t =>
    have h4 : (codes "put ").length = 4 := by decide
    show 0 < (codes "put " ++ n ++ tailN a ++ 58 :: t).length
    simp only [List.length_append, List.length_cons, h4]
    omega
  | named w n =>
    show 0 < (w ++ 32 :: n).length
    rw [List.length_append, List.length_cons]
    omega
  | nums w ns =>
    have hw : 0 < w.length := hn w (by
      rcases (cnt_iff w ns.length).mp h.1 with ⟨z, _⟩ | ⟨z, _⟩ <;> simp [z])
    exact Nat.lt_of_lt_of_le hw (joinL_part (s := [32]) (ws := w :: ns.map num) List.mem_cons_self)
  | alone w => exact hn w (by have : w ∈ alones := h; simp [this])
def sgnL : L := codes " :@,0-1aA\n.9z_+5"
theorem sgn_ok : ∀ k < 16, sgnL.getD k 0 < 128 := by decide +kernel
def kwL : Rk.Ws := [codes "put", codes "read", codes "erase", codes "send", codes "lose", codes "names", codes "puts", codes "Cap"]
theorem kwL_ok : ∀ w ∈ kwL, asc w = true ∧ w.length ≤ 20 := by decide +kernel
theorem law_other_line_spec {k : Cmd} (h : CmdG k) (cell : Int) : ∃ s, g_law_other_line [cmdD k, dS (lineOf k), .int cell] = some (.v (dS s)) ∧ Fine s := by
  have ha := h.asc
  have hl := h.len
  have hp := line_pos h.ok
  have hrep := fun (w : L) (ho : Odd w) (n : Int) => law_replaced_spec h ho n
  generalize lineOf k = a at ha hl hp hrep ⊢
  generalize cmdD k = kd at hrep ⊢
  unfold g_law_other_line t_law_other_line
  obtain ⟨w, e, ds, rfl, hb⟩ := Zc.draws_spec cell [14, 60, 90, 94, 16, 840] (by intro s hs; simp only [List.mem_cons, List.not_mem_nil, or_false] at hs; omega) (show (6 : Nat) ≤ 1000 by decide)
  have hdl : ds.length = 6 := hb.len
  have b0 := hb.at (k := 0) (s := 14) (by decide) rfl
  have b1 := hb.at (k := 1) (s := 60) (by decide) rfl
  have b2 := hb.at (k := 2) (s := 90) (by decide) rfl
  have b3 := hb.at (k := 3) (s := 94) (by decide) rfl
  have b4 := hb.at (k := 4) (s := 16) (by decide) rfl
  have b5 := hb.at (k := 5) (s := 840) (by decide) rfl
  have hla : lenD [dS a] = some (.int ((a.length : Nat) : Int)) := len_S (by omega)
  have s0 := Int.emod_nonneg (at_ ds 5) (show ((a.length : Nat) : Int) ≠ 0 by omega)
  have s1 := Int.emod_lt_of_pos (at_ ds 5) (show (0 : Int) < ((a.length : Nat) : Int) by omega)
  walk_at "zz"
  rw [show ([.int 14, .int 60, .int 90, .int 94, .int 16, .int 840] : List D) = iL [14, 60, 90, 94, 16, 840] from rfl, e_law_draws, e]
  walk_at "zz"
  rw [hla]
  walk_at "zz"
  refine seq_then (C := fun o => ∃ s, outW o = some (.v (dS s)) ∧ Fine s) (fun g => ∃ n : Nat, n < a.length ∧ g = [some (.v kd), some (.v (dS a)), some (.v (.int cell)), some (.v (.lst (iL ds))), some (.v (.int (n : Int))), none, none]) ?_ ?_
  · by_cases q : 0 < at_ ds 2 % 3
    · rw [decide_eq_true q]
      walk_at "zz"
      rw [hla]
      walk_at "zz"
      have t0 := Int.emod_nonneg (at_ ds 5) (show (if ((a.length : Nat) : Int) < 16 then ((a.length : Nat) : Int) else 16) ≠ 0 by split <;> omega)
      have t1 := Int.emod_lt_of_pos (at_ ds 5) (show 0 < (if ((a.length : Nat) : Int) < 16 then ((a.length : Nat) : Int) else 16) by split <;> omega)
      have t2 : (if ((a.length : Nat) : Int) < 16 then ((a.length : Nat) : Int) else 16) ≤ ((a.length : Nat) : Int) := by split <;> omega
      refine ⟨_, rfl, (at_ ds 5 % if ((a.length : Nat) : Int) < 16 then ((a.length : Nat) : Int) else 16).toNat, by omega, ?_⟩
      rw [Int.toNat_of_nonneg t0]
    · rw [decide_eq_false q]
      walk_at "zz"
      refine ⟨_, rfl, (at_ ds 5 % ((a.length : Nat) : Int)).toNat, by omega, ?_⟩
      rw [Int.toNat_of_nonneg s0]
  rintro g ⟨n, hn, rfl⟩
  have esg : ixD (dS (codes " :@,0-1aA\n.9z_+5")) (.int (at_ ds 4)) = some (dS [sgnL.getD (at_ ds 4).toNat 0]) := ixS (by decide) b4.1 (by show _ < ((16 : Nat) : Int); exact b4.2)
  have hsg := sgn_ok (at_ ds 4).toNat (by omega)
  generalize sgnL.getD (at_ ds 4).toNat 0 = c0 at esg hsg
  walk_at "zz"
  rw [esg]
  walk_at "zz"
  refine seq_then (C := fun o => ∃ s, outW o = some (.v (dS s)) ∧ Fine s) (fun g => ∃ c : Nat, c < 128 ∧ g = [some (.v kd), some (.v (dS a)), some (.v (.int cell)), some (.v (.lst (iL ds))), some (.v (.int (n : Int))), some (.v (dS [c])), none]) ?_ ?_
  · by_cases q : at_ ds 2 % 5 = 0
    · rw [show (at_ ds 2 % 5 == 0) = true from beq_iff_eq.mpr q]
      obtain ⟨c, ec, hc, _⟩ := sign_any (at_ ds 3)
      walk_at "zz"
      rw [ec]
      walk_at "zz"
      exact ⟨_, rfl, c, hc, rfl⟩
    · rw [show (at_ ds 2 % 5 == 0) = false from beq_eq_false_iff_ne.mpr q]
      walk_at "zz"
      exact ⟨_, rfl, c0, hsg, rfl⟩
  clear hsg esg c0
  rintro g ⟨c, hc, rfl⟩
  have ac : asc [c] = true := asc_cons hc rfl
  walk_at "zz"
  by_cases p0 : at_ ds 0 < 5
  · rw [decide_eq_true p0]
    obtain ⟨o, eo, ho⟩ := odd_part_spec (at_ ds 1)
    obtain ⟨s, es, hs⟩ := hrep o ho (at_ ds 2)
    walk_at "zz"
    rw [eo]
    walk_at "zz"
    rw [es]
    walk_at "zz"
    exact ⟨_, rfl, hs⟩
  rw [decide_eq_false p0]
  walk_at "zz"
  by_cases p5 : at_ ds 0 = 5
  · rw [show (at_ ds 0 == 5) = true from beq_iff_eq.mpr p5]
    walk_at "zz"
    obtain ⟨o, eo, ho⟩ := odd_line_spec (at_ ds 1)
    rw [eo]
    walk_at "zz"
    have ho2 := ho.2
    exact ⟨_, rfl, ho.1, by omega⟩
  rw [show (at_ ds 0 == 5) = false from beq_eq_false_iff_ne.mpr p5]
  walk_at "zz"
  by_cases p6 : at_ ds 0 = 6
  · rw [show (at_ ds 0 == 6) = true from beq_iff_eq.mpr p6]
    walk_at "zz"
    rw [add_S (by simp only [List.length_append, List.length_cons, List.length_nil, List.length_take, List.length_drop]; omega)]
    walk_at "zz"
    refine ⟨_, rfl, asc_app ac ha, ?_⟩
    simp only [List.length_append, List.length_cons, List.length_nil, List.length_take, List.length_drop]; omega
  rw [show (at_ ds 0 == 6) = false from beq_eq_false_iff_ne.mpr p6]
  walk_at "zz"
  by_cases p7 : at_ ds 0 = 7
  · rw [show (at_ ds 0 == 7) = true from beq_iff_eq.mpr p7]
    walk_at "zz"
    rw [add_S (by simp only [List.length_append, List.length_cons, List.length_nil, List.length_take, List.length_drop]; omega)]
    walk_at "zz"
    refine ⟨_, rfl, asc_app ha ac, ?_⟩
    simp only [List.length_append, List.length_cons, List.length_nil, List.length_take, List.length_drop]; omega
  rw [show (at_ ds 0 == 7) = false from beq_eq_false_iff_ne.mpr p7]
  walk_at "zz"
  by_cases p8 : at_ ds 0 = 8
  · rw [show (at_ ds 0 == 8) = true from beq_iff_eq.mpr p8]
    walk_at "zz"
    rw [sl_to (by omega) (by omega), show ((n : Nat) : Int).toNat = n from rfl]
    walk_at "zz"
    refine ⟨_, rfl, asc_take ha _, ?_⟩
    rw [List.length_take]
    omega
  rw [show (at_ ds 0 == 8) = false from beq_eq_false_iff_ne.mpr p8]
  walk_at "zz"
  by_cases p9 : at_ ds 0 = 9
  · rw [show (at_ ds 0 == 9) = true from beq_iff_eq.mpr p9]
    walk_at "zz"
    rw [sl_to (by omega) (by omega), show ((n : Nat) : Int).toNat = n from rfl]
    have ex : ixD (dS a) (.int (n : Int)) = some (dS [a.getD n 0]) := ixS (by omega) (by omega) (by omega)
    have hx : asc [a.getD n 0] = true := by
      rw [List.getD_eq_getElem?_getD, List.getElem?_eq_getElem hn]
      exact asc_cons (asc_mem ha (List.getElem_mem hn)) rfl
    generalize a.getD n 0 = x at ex hx
    rw [ex]
    walk_at "zz"
    rw [add_S (by simp only [List.length_append, List.length_cons, List.length_nil, List.length_take, List.length_drop]; omega)]
    rw [sl_from (by omega) (by omega), show (((n : Nat) : Int)).toNat = n from by omega]
    walk_at "zz"
    rw [add_S (by simp only [List.length_append, List.length_cons, List.length_nil, List.length_take, List.length_drop]; omega)]
    walk_at "zz"
    refine ⟨_, rfl, asc_app (asc_app (asc_take ha _) hx) (asc_drop ha _), ?_⟩
    simp only [List.length_append, List.length_cons, List.length_nil, List.length_take, List.length_drop]; omega
  rw [show (at_ ds 0 == 9) = false from beq_eq_false_iff_ne.mpr p9]
  walk_at "zz"
  by_cases p10 : at_ ds 0 = 10
  · rw [show (at_ ds 0 == 10) = true from beq_iff_eq.mpr p10]
    walk_at "zz"
    rw [sl_to (by omega) (by omega), show ((n : Nat) : Int).toNat = n from rfl]
    rw [sl_from (by omega) (by omega), show (((n : Nat) : Int) + 1).toNat = n + 1 from by omega]
    walk_at "zz"
    rw [add_S (by simp only [List.length_append, List.length_cons, List.length_nil, List.length_take, List.length_drop]; omega)]
    walk_at "zz"
    refine ⟨_, rfl, asc_app (asc_take ha _) (asc_drop ha _), ?_⟩
    simp only [List.length_append, List.length_cons, List.length_nil, List.length_take, List.length_drop]; omega
  rw [show (at_ ds 0 == 10) = false from beq_eq_false_iff_ne.mpr p10]
  walk_at "zz"
  by_cases p11 : at_ ds 0 = 11
  · rw [show (at_ ds 0 == 11) = true from beq_iff_eq.mpr p11]
    walk_at "zz"
    rw [sl_to (by omega) (by omega), show ((n : Nat) : Int).toNat = n from rfl]
    walk_at "zz"
    rw [add_S (by simp only [List.length_append, List.length_cons, List.length_nil, List.length_take, List.length_drop]; omega)]
    rw [sl_from (by omega) (by omega), show (((n : Nat) : Int) + 1).toNat = n + 1 from by omega]
    walk_at "zz"
    rw [add_S (by simp only [List.length_append, List.length_cons, List.length_nil, List.length_take, List.length_drop]; omega)]
    walk_at "zz"
    refine ⟨_, rfl, asc_app (asc_app (asc_take ha _) ac) (asc_drop ha _), ?_⟩
    simp only [List.length_append, List.length_cons, List.length_nil, List.length_take, List.length_drop]; omega
  rw [show (at_ ds 0 == 11) = false from beq_eq_false_iff_ne.mpr p11]
  walk_at "zz"
  by_cases p12 : at_ ds 0 = 12
  · rw [show (at_ ds 0 == 12) = true from beq_iff_eq.mpr p12]
    walk_at "zz"
    have j0 := Int.emod_nonneg (at_ ds 1) (show (8 : Int) ≠ 0 by decide)
    have j1 := Int.emod_lt_of_pos (at_ ds 1) (show (0 : Int) < 8 by decide)
    obtain ⟨ew, hw⟩ := pickW (ws := kwL) j0 (by show _ < ((8 : Nat) : Int); exact j1)
    have ew : ixD (D.tup [dS (codes "put"), dS (codes "read"), dS (codes "erase"), dS (codes "send"), dS (codes "lose"), dS (codes "names"), dS (codes "puts"), dS (codes "Cap")]) (.int (at_ ds 1 % 8)) = some (dS (at_ kwL (at_ ds 1 % 8))) := ew
    obtain ⟨w1, w2⟩ := kwL_ok _ hw
    generalize at_ kwL (at_ ds 1 % 8) = v at ew w1 w2
    rw [ew]
    walk_at "zz"
    rw [sp_S (by decide) (by omega)]
    walk_at "zz"
    have ed : cutL ((sp 32 a).map dS) (some 1) none = ((sp 32 a).drop 1).map dS := by
      rw [show (1 : Int) = ((1 : Nat) : Int) from rfl, cutY_from, List.map_drop]
    have n1 := sp_count (c := 32) a.length a (Nat.le_refl _)
    have n2 := sum_drop (sp 32 a)
    have n3 := len_join1 (sp 32 a)
    rw [J_self] at n3
    rw [ed, add_ll (by simp only [List.length_cons, List.length_nil, List.length_map, List.length_drop]; omega)]
    walk_at "zz"
    have em : dS v :: ((sp 32 a).drop 1).map dS = (v :: (sp 32 a).drop 1).map dS := rfl
    have n4 : ((v :: (sp 32 a).drop 1).map List.length).sum = v.length + (((sp 32 a).drop 1).map List.length).sum := by simp
    have n5 : (v :: (sp 32 a).drop 1).length ≤ (sp 32 a).length + 1 := by simp only [List.length_cons, List.length_drop]; omega
    have n6 := len_joinU (v :: (sp 32 a).drop 1)
    rw [em, join_S (by rw [List.length_singleton]; omega)]
    walk_at "zz"
    refine ⟨_, rfl, asc_J fun w m => ?_, ?_⟩
    · rcases List.mem_cons.mp m with m | m
      · rw [m]; exact w1
      · exact sp_asc ha w (List.mem_of_mem_drop m)
    · omega
  rw [show (at_ ds 0 == 12) = false from beq_eq_false_iff_ne.mpr p12]
  walk_at "zz"
  rw [sl_to (by omega) (by omega), show ((n : Nat) : Int).toNat = n from rfl]
  walk_at "zz"
  rw [add_S (by simp only [List.length_append, List.length_cons, List.length_nil, List.length_take, List.length_drop]; omega)]
  rw [sl_from (by omega) (by omega), show (((n : Nat) : Int)).toNat = n from by omega]
  walk_at "zz"
  rw [add_S (by simp only [List.length_append, List.length_cons, List.length_nil, List.length_take, List.length_drop]; omega)]
  walk_at "zz"
  refine ⟨_, rfl, asc_app (asc_app (asc_take ha _) ac) (asc_drop ha _), ?_⟩
  simp only [List.length_append, List.length_cons, List.length_nil, List.length_take, List.length_drop]; omega
end Y
end

section
set_option Elab.async false
set_option linter.all false
set_option maxRecDepth 100000
set_option maxHeartbeats 4000000
/-! The law. -/
namespace Y
open L2 Zk Zc Zj Zd Rk
open PySem hiding wordsOf Tok
local macro_rules | `(tactic| walk_at "zs") => `(tactic| simp only [beq_self_eq_true, Bool.or_false, Bool.false_or, Bool.true_or, Bool.or_true, Bool.and_false, Bool.false_and, Bool.true_and, Bool.and_true, Zc.isi_ii, Zc.isi_ib, Zc.isi_tt, Zc.isi_ll, Zc.rowsT_len, Zc.rowsL_len, Zc.is_integer_call, Zc.ix_p0, Zc.ix_p1, dgTup2_a, dgTup3_a, Bool.not_true, Bool.not_false, mul_lz, List.flatten_cons, List.flatten_nil, Int.reduceToNat, add_ll, pow10_12, pow10_18, pow10_39, pow10_41, pow10_59, pow10_60, mkLst_some, mkTup_some, List.length_cons, List.length_nil, Nat.zero_le, Nat.reduceAdd, Nat.reduceLeDiff, call1, callO1, call2, callO2, call3, callO3, call4, callO4, call5, callO5, call6, callO6, ap1_some, ap2_some, apN_some, apC_some, d1_a, d2_a, dN_a, aNil_a, aCons_a, dC_a, dVar_z, dVar_s, tDt_a, apAnd_t, apAnd_f, apOr_t, apOr_f, dAndT_a, dOrT_a, apNot_some, dNotT_a, apAndV_t, apAndV_f, dAndV_a, apOrV_t, apOrV_f, dOrV_a, apIf_t, apIf_f, dIf_a, apCh_t, apCh_f, apChain_some, dChain_a, apSeq_nx, apSeq_rt, apSeq_ct, apSeq_bk, sSeq_a, apIfS_t, apIfS_f, sIf_a, sNext_a, sCont_a, sBreak_a, apRet_some, sRet_a, apRetO_some, sRetO_a, sRetN_a, getO_z, getO_s, apRetV_some, sRetV_a, ltB_z, ltB_s, okSlot_s, apAsg_some, sAsg_a, dName_ok, apG_some, dgCons_a, dgNil_a, apAsgO_some, sAsgO_a, sApp_a, sSetI_a, apFor_some, sFor_a, dItems_a, dRng1_a, dRng2_a, apEn_some, apEn_tup, dEnum_a, sFrz_a, frzs_nil, frzs_cons, frzI_o, frzI_v, frzI_n, frzI_s, frz1_s, frzAll_nil, frzAll_o, frzAll_v, frzAll_n, peekT_a, apPk_int, apPk_bl, apPk_str, apPk_non, peekF_a, dCall_a, toO_o, dCallO_a, dMake_a, Wd_v, Wd_o, dSl_a, apSl_some, oNone_a, oSome_a, apO_some, add_ii, sub_ii, lt_ii, le_ii, gt_ii, ge_ii, eq_ii, ne_ii, neg_i, not_b, bl_b, tru_b, tru_i, tru_l, tru_t, tru_n, len_l, len_t, len_scr, abs_i, int_i, list_l, list_t, tuple_l, tuple_t, min_ii, max_ii, rev_l, items_l, items_t, iL_len, run_a, outW_rt, outW_nx, List.map_cons, List.map_nil, List.replicate, List.append_nil, List.cons_append, List.nil_append, List.set_cons_zero, List.set_cons_succ, Option.map_some])
local macro_rules | `(tactic| walk_at "zd") => `(tactic| first | ((with_reducible show okSlot _ _ = true); simp only [okSlot_s, ltB_z, ltB_s]; done) | omega | assumption | decide | (simp only [List.length_map, List.length_append, List.length_cons, List.length_nil, List.length_range, List.length_set, List.length_reverse, iL_len, Zc.rowsT_len, Zc.rowsL_len] at *; omega))
local macro_rules | `(tactic| walk_at "zz") => `(tactic| simp (disch := walk_at "zd") only [dgTup2_a, dgTup3_a, Bool.not_true, Bool.not_false, mul_lz, List.flatten_cons, List.flatten_nil, Int.reduceToNat, add_ll, pow10_12, pow10_18, pow10_39, pow10_41, pow10_59, pow10_60, mkLst_some, mkTup_some, List.length_cons, List.length_nil, Nat.zero_le, Nat.reduceAdd, Nat.reduceLeDiff, call1, callO1, call2, callO2, call3, callO3, call4, callO4, call5, callO5, call6, callO6, ap1_some, ap2_some, apN_some, apC_some, d1_a, d2_a, dN_a, aNil_a, aCons_a, dC_a, dVar_z, dVar_s, tDt_a, apAnd_t, apAnd_f, apOr_t, apOr_f, dAndT_a, dOrT_a, apNot_some, dNotT_a, apAndV_t, apAndV_f, dAndV_a, apOrV_t, apOrV_f, dOrV_a, apIf_t, apIf_f, dIf_a, apCh_t, apCh_f, apChain_some, dChain_a, apSeq_nx, apSeq_rt, apSeq_ct, apSeq_bk, sSeq_a, apIfS_t, apIfS_f, sIf_a, sNext_a, sCont_a, sBreak_a, apRet_some, sRet_a, apRetO_some, sRetO_a, sRetN_a, getO_z, getO_s, apRetV_some, sRetV_a, ltB_z, ltB_s, okSlot_s, apAsg_some, sAsg_a, dName_ok, apG_some, dgCons_a, dgNil_a, apAsgO_some, sAsgO_a, sApp_a, sSetI_a, apFor_some, sFor_a, dItems_a, dRng1_a, dRng2_a, apEn_some, apEn_tup, dEnum_a, sFrz_a, frzs_nil, frzs_cons, frzI_o, frzI_v, frzI_n, frzI_s, frz1_s, frzAll_nil, frzAll_o, frzAll_v, frzAll_n, peekT_a, apPk_int, apPk_bl, apPk_str, apPk_non, peekF_a, dCall_a, toO_o, dCallO_a, dMake_a, Wd_v, Wd_o, dSl_a, apSl_some, oNone_a, oSome_a, apO_some, add_ii, sub_ii, lt_ii, le_ii, gt_ii, ge_ii, eq_ii, ne_ii, neg_i, not_b, bl_b, tru_b, tru_i, tru_l, tru_t, tru_n, len_l, len_t, len_scr, abs_i, int_i, list_l, list_t, tuple_l, tuple_t, min_ii, max_ii, rev_l, items_l, items_t, iL_len, run_a, outW_rt, outW_nx, List.map_cons, List.map_nil, List.replicate, List.append_nil, List.cons_append, List.nil_append, List.set_cons_zero, List.set_cons_succ, Option.map_some, Int.reduceAdd, Int.reduceMul, Int.reduceSub, Int.reduceNeg, beq_self_eq_true, Bool.or_false, Bool.false_or, Bool.true_or, Bool.or_true, Bool.and_false, Bool.false_and, Bool.true_and, Bool.and_true, Zc.isi_ii, Zc.isi_ib, Zc.isi_tt, Zc.isi_ll, Zc.rowsT_len, Zc.rowsL_len, Zc.is_integer_call, Zc.ix_p0, Zc.ix_p1, apR1_any, Int.toNat_natCast, apR2_some, mod_ii, fdiv_ii, mul_small, apApp_some, ix_at, ix_atT, ix_atI, ix_atIT, ix_atR, ix_atRT, List.length_map, List.length_append, List.length_range, List.length_set, Option.map_none, Option.map_map, decide_true, decide_false, peekO_a, apPkO_i, frz_wo, frz_wv, frz_kk, wipeG_nil, wipeG_cons, orB_s, orB_t, orB_f, andB_s, andB_t, andB_f, orV_s, orV_t, orV_f, andV_s, andV_t, andV_f, apOr_b, apAnd_b, apOrV_b, apAndV_b, apCh_b, Zc.cut_from, Zc.cut_to, in_l, in_t, in_pr, eq_op_op, eq_op_pr, eq_pr_op, eq_pr_pr, ne_op_op, ne_op_pr, ne_pr_op, ne_pr_pr, isnt_op, is_op, pr_0, pr_1, st_0, st_1, inP_pr, ninP_pr, nin_l, isi_prt, len_pr, op_some, prD_eq, ix_lit2, ix_lit3, ix_lit4, ix_lit5, ix_lit6, ix_lit7, ix_lit8, ix_lit9, ix_lit10, ix_lit11, ix_lit12, ix_lit13, ix_lit14, ix_lit15, setI_i, setI_p, setI_o, setI_n, snoc_i, snoc_r, snoc_p, snoc_n, snoc_o, snoc_pp, snoc_s, eq_ol, ne_ol, eq_pl, ne_pl, eq_sl, ne_sl, eq_il, ne_il, eq_rl, ne_rl, eq_il1, isi_bb, eq_bb, ne_bb, eq_self, lit, dM1_a, apM1_S, dM0_a, apM0_S, Bool.not_true, Bool.not_false, is_tn, is_nn, is_ln, dTxt_a, apTxt_S, Int.reduceBEq, ca, cz, c0, c9, cComma, cEq, cCol, cSl, cSemi, cSp, dZip_a, apZip_l, is_num1, List.isEmpty_nil, List.isEmpty_cons, Bool.false_eq_true, reduceIte, Option.isNone_none, Option.isNone_some, in_alones, in_nameds, get_num, ix4_0, ix4_1, ix4_2, ix4_3, dSlS_w, apSl_s, in_al, in_na, in_tw, dXf1, dIs1, look_text, is_o, isnt_o, isi_st, isi_stt, isi_is, isi_itt, isi_ts, Rk.isi_tt, Rk.isi_call, isi_c31])
local macro_rules | `(tactic| walk_at "zf") => `(tactic| first | (walk_at "zz"; done) | (walk_at "zz"; rfl) | rfl)
local macro_rules | `(tactic| walk_at "lc") => `(tactic| ((case hf => rfl); (case hi => first | (walk_at "zz"; done) | (walk_at "zz"; rfl) | rfl); (case hl => walk_at "zd"); (case h => (intro a ha; refine ⟨_, dName_ok rfl, ?_, fun hT => ?_⟩ <;> walk_at "zz" <;> rfl))))
local macro_rules | `(tactic| walk_at "lm") => `(tactic| ((case hf => rfl); (case hi => first | (walk_at "zz"; done) | (walk_at "zz"; rfl) | rfl); (case hl => walk_at "zd"); (case h => (intro a ha; refine ⟨_, dName_ok rfl, ?_⟩; walk_at "zz"; rfl))))
theorem cell_any (ns : List Int) (k : Int) (h0 : 0 ≤ k) (h : ns.length ≤ 63) : ∃ c : Int, g_law_cell [.scr ns, .int k] = some (.v (.int c)) := by
  unfold g_law_cell t_law_cell
  walk_at "zz"
  by_cases hk : k < (ns.length : Nat)
  · rw [decide_eq_true hk]
    walk_at "zz"
    have e := ix_scr (at_get h0 hk)
    rw [show ((k.toNat : Nat) : Int) = k by omega] at e
    rw [e]
    exact ⟨_, rfl⟩
  · rw [decide_eq_false hk]
    walk_at "zz"
    exact ⟨_, rfl⟩
theorem good_sm {k : Cmd} (h : CmdG k) : CmdSm k := ⟨h.ok, by have := h.len; omega⟩
def preW : Rk.Ws := [codes "", codes " ", codes ":", codes "@1:", codes "::"]
def sufW : Rk.Ws := [codes "", codes " ", codes ":", codes "  ", codes "@"]
theorem pre_ok : ∀ w ∈ preW, asc w = true ∧ 10 ∉ w ∧ w.length ≤ 3 := by decide
theorem suf_ok : ∀ w ∈ sufW, asc w = true ∧ 10 ∉ w ∧ w.length ≤ 2 := by decide
def szW : List Int := [0, 1, 7, 8, 9, 16, 17, 25, 315]
theorem sz_ok : ∀ x ∈ szW, 0 ≤ x ∧ x ≤ 315 := by decide
theorem main : ∀ (c : Cs) (ns : List Int), ns.length ≤ 63 → g_law c [.scr ns] = some (.v (.bl true)) := fun c ns hx => by
  unfold g_law t_law
  walk_at "zz"
  have hM : (if 1 + (ns.length : Int) / 4 < 5 then 1 + (ns.length : Int) / 4 else 5).toNat ≤ 5 := by split <;> omega
  generalize (if 1 + (ns.length : Int) / 4 < 5 then 1 + (ns.length : Int) / 4 else 5).toNat = M at hM ⊢
  refine rng_then (C := fun o => outW o = some (.v (.bl true))) (fun i g => ∃ k1 k2 k3 k4 k5 k6 k7 : Option Wd, g = [some (.v (.scr ns)), k1, k2, k3, k4, k5, k6, k7]) ?_ ?_ ?_ ?_
  · exact ⟨_, _, _, _, _, _, _, rfl⟩
  · rintro i g ⟨k1, k2, k3, k4, k5, k6, k7, rfl⟩
    rfl
  · rintro i g hi ⟨k1, k2, k3, k4, k5, k6, k7, rfl⟩
    show StepTo (sSeq _ _ [some (.v (.scr ns)), some (.v (.int (i : Int))), k2, k3, k4, k5, k6, k7]) _
    obtain ⟨c0, ec0⟩ := cell_any ns (4 * (i : Int)) (by omega) hx
    obtain ⟨c1, ec1⟩ := cell_any ns (4 * (i : Int) + 1) (by omega) hx
    obtain ⟨c2, ec2⟩ := cell_any ns (4 * (i : Int) + 2) (by omega) hx
    obtain ⟨c3, ec3⟩ := cell_any ns (4 * (i : Int) + 3) (by omega) hx
    obtain ⟨w, e, ds, rfl, hb⟩ := Zc.draws_spec c0 csz (by intro s hs; simp only [csz, List.mem_cons, List.not_mem_nil, or_false] at hs; omega) (show (15 : Nat) ≤ 1000 by decide)
    have hdl : ds.length = 15 := hb.len
    have b12 := hb.at (k := 12) (s := 9) (by decide) rfl
    have b13 := hb.at (k := 13) (s := 5) (by decide) rfl
    have b14 := hb.at (k := 14) (s := 5) (by decide) rfl
    obtain ⟨W, eW, hW, hWn⟩ := names_spec c1
    have hz := sz_ok _ (at_mem (xs := szW) b12.1 (by show _ < ((9 : Nat) : Int); exact b12.2))
    obtain ⟨n, hn⟩ : ∃ n : Nat, at_ szW (at_ ds 12) = (n : Int) := ⟨_, (Int.toNat_of_nonneg hz.1).symm⟩
    obtain ⟨t, et, htl, ht⟩ := text_spec c2 (n := n) (by omega)
    obtain ⟨ep, hp⟩ := pickW (ws := preW) b13.1 (by show _ < ((5 : Nat) : Int); exact b13.2)
    obtain ⟨es, hs⟩ := pickW (ws := sufW) b14.1 (by show _ < ((5 : Nat) : Int); exact b14.2)
    obtain ⟨p1, p2, p3⟩ := pre_ok _ hp
    obtain ⟨s1, s2, s3⟩ := suf_ok _ hs
    have at' : asc t = true := List.all_eq_true.mpr fun x m => decide_eq_true (ht x m).1
    have hT : asc (at_ preW (at_ ds 13) ++ t ++ at_ sufW (at_ ds 14)) = true := asc_app (asc_app p1 at') s1
    have h10 : 10 ∉ at_ preW (at_ ds 13) ++ t ++ at_ sufW (at_ ds 14) := fun m => by
      rcases List.mem_append.mp m with m | m
      · rcases List.mem_append.mp m with m | m
        · exact p2 m
        · exact (ht 10 m).2 rfl
      · exact s2 m
    obtain ⟨k, ek, gk⟩ := law_command_spec hb hW hWn hT h10 (by simp only [List.length_append]; omega) c0
    have eL := law_line_spec (good_sm gk)
    have eT := there_and_back_spec (c := c) (good_sm gk) gk.asc
    obtain ⟨o, eo, ho⟩ := law_other_line_spec gk c3
    have eJ := judged_spec (c := c) ho.1 ho.2
    walk_at "zz"
    rw [ec0]
    walk_at "zz"
    rw [show ([.int 15, .int 4, .int 7, .int 8, .int 8, .int 8, .int 8, .int 8, .int 8, .int 8, .int 7, .int 6, .int 9, .int 5, .int 5] : List D) = iL csz from rfl, e_law_draws, e]
    walk_at "zz"
    rw [ec1]
    walk_at "zz"
    rw [e_law_names, eW]
    walk_at "zz"
    rw [ec2]
    walk_at "zz"
    rw [show at_ [0, 1, 7, 8, 9, 16, 17, 25, 315] (at_ ds 12) = (n : Int) from hn, et]
    have ep' : ixD (.tup [dS (codes ""), dS [32], dS [58], dS (codes "@1:"), dS (codes "::")]) (.int (at_ ds 13)) = some (dS (at_ preW (at_ ds 13))) := ep
    have es' : ixD (.tup [dS (codes ""), dS [32], dS [58], dS (codes "  "), dS (codes "@")]) (.int (at_ ds 14)) = some (dS (at_ sufW (at_ ds 14))) := es
    walk_at "zz"
    rw [ep']
    walk_at "zz"
    rw [add_S (by omega)]
    rw [es']
    walk_at "zz"
    rw [add_S (by rw [List.length_append]; omega)]
    walk_at "zz"
    rw [ek]
    walk_at "zz"
    rw [eL]
    walk_at "zz"
    rw [eT]
    walk_at "zz"
    rw [ec3]
    walk_at "zz"
    rw [eo]
    walk_at "zz"
    rw [eJ]
    walk_at "zz"
    rw [eT]
    walk_at "zz"
    exact step_nx ⟨_, _, _, _, _, _, _, rfl⟩
  · rintro g ⟨k1, k2, k3, k4, k5, k6, k7, rfl⟩
    walk_at "zz"
end Y
end

section
set_option Elab.async false
set_option linter.all false
set_option maxRecDepth 100000
set_option maxHeartbeats 4000000
namespace Y
open PySem L2 Zk
def spLaw (K : PySem.W.Frag) : Sp := fun vs H Q _ => ∃ (a : Addr) (ns : List Int), vs = [.ref a] ∧ SqL K H a (ns.map V.int) ∧ ns.length ≤ 63 ∧ ∀ H', Q (.bl true) H'
theorem law_sp {P : Program} {w : World} {K : PySem.W.Frag} {mg : Str → Option Value} {base : Heap} (main : ∀ (c : Cs) (ns : List Int), ns.length ≤ 63 → g_law c [.scr ns] = some (.v (.bl true))) (T : Txt K mg w) : FnOk P w K mg base CX0 9 T.f_law T.fd_law ["script"] (spLaw K) := by
  refine (ok_law (P := P) (w := w) (base := base) T).imp fun vs H Q E h => ?_
  obtain ⟨a, ns, rfl, hS, hl, q⟩ := h
  refine ⟨fun _ => False, [.scr ns], .v (.bl true), rfl, fun _ z => z.elim, .cons ?_ .nil, main T.c ns hl, fun v H' e r => ?_⟩
  · rcases hS with h | h
    · exact .scr (fun z => z) h
    · exact .kscr fun G => .inr h
  · cases r; exact q H'
theorem all_mk {l : PySem.W.OpenLaw} {w : World} {K : PySem.W.Frag} {h : Heap} {mg : Str → Option Value} {fa C_InvalidLine C_PoolError C_InvalidText C_InvalidSeats C_InvalidName C_Missing fI_InvalidLine f_is_name f_is_number f_joined f_read_joined f_command_line f_parse_line f_read_line f_read_put f_put_line f_law_cell f_law_draws f_law_sign f_law_text f_law_names f_law_is_integer f_law_command f_law_line f_law_integer f_law_is_name f_law_put_reading f_law_reading f_law_odd_part f_law_odd_line f_law_odd_seats f_law_replaced f_law_other_line f_law_alike f_law_parsed f_law_there_and_back f_law_judged f_law : Addr} (main : ∀ (c : Cs) (ns : List Int), ns.length ≤ 63 → g_law c [.scr ns] = some (.v (.bl true))) (X : K.In h) (G : h.Ns mainGlobals mg) (hfa : mg "law" = some (.ref fa))
    {kt_NUMBERED : Addr}
    {h0_NUMBERED h1_NUMBERED h2_NUMBERED h3_NUMBERED h4_NUMBERED : Int}
    {t0_NUMBERED u0_NUMBERED t1_NUMBERED u1_NUMBERED t2_NUMBERED u2_NUMBERED t3_NUMBERED u3_NUMBERED t4_NUMBERED u4_NUMBERED : Tok}
    {kn_NUMBERED : Nat}
    {kt_ALONE : Addr}
    {ko_ALONE : Option Addr}
    {t0_ALONE t1_ALONE t2_ALONE t3_ALONE : Tok}
    {kn_ALONE : Nat}
    {kl_ALONE : Array (Option Value)}
    {kt_NAMED : Addr}
    {ko_NAMED : Option Addr}
    {t0_NAMED t1_NAMED : Tok}
    {kn_NAMED : Nat}
    {kl_NAMED : Array (Option Value)}
    {nmE_InvalidLine qE_InvalidLine : Str} {NE_InvalidLine : Addr} {bsE_InvalidLine : List Value} {snE_InvalidLine : List Str} {subE_InvalidLine : List Value} {abE_InvalidLine : Bool} {colE_InvalidLine : Option Bool} {ddE_InvalidLine : Option Addr} {m0_InvalidLine m1_InvalidLine m2_InvalidLine m3_InvalidLine m5_InvalidLine : Option Value} {ocI_InvalidLine kVI_InvalidLine dcI_InvalidLine pmI_InvalidLine cdI_InvalidLine ctI_InvalidLine : Value} {odI_InvalidLine anI_InvalidLine : Option Addr} {slI_InvalidLine : Array (Option Value)}
    {oc_is_name kV_is_name dc_is_name pm_is_name cd_is_name ct_is_name : Value} {od_is_name an_is_name : Option Addr} {sl_is_name : Array (Option Value)}
    {oc_is_number kV_is_number dc_is_number pm_is_number cd_is_number ct_is_number : Value} {od_is_number an_is_number : Option Addr} {sl_is_number : Array (Option Value)}
    {oc_joined kV_joined dc_joined pm_joined cd_joined ct_joined : Value} {od_joined an_joined : Option Addr} {sl_joined : Array (Option Value)}
    {oc_read_joined kV_read_joined dc_read_joined pm_read_joined cd_read_joined ct_read_joined : Value} {od_read_joined an_read_joined : Option Addr} {sl_read_joined : Array (Option Value)}
    {oc_command_line kV_command_line dc_command_line pm_command_line cd_command_line ct_command_line : Value} {od_command_line an_command_line : Option Addr} {sl_command_line : Array (Option Value)}
    {oc_parse_line kV_parse_line dc_parse_line pm_parse_line cd_parse_line ct_parse_line : Value} {od_parse_line an_parse_line : Option Addr} {sl_parse_line : Array (Option Value)}
    {oc_read_line kV_read_line dc_read_line pm_read_line cd_read_line ct_read_line : Value} {od_read_line an_read_line : Option Addr} {sl_read_line : Array (Option Value)}
    {oc_read_put kV_read_put dc_read_put pm_read_put cd_read_put ct_read_put : Value} {od_read_put an_read_put : Option Addr} {sl_read_put : Array (Option Value)}
    {oc_put_line kV_put_line dc_put_line pm_put_line cd_put_line ct_put_line : Value} {od_put_line an_put_line : Option Addr} {sl_put_line : Array (Option Value)}
    {oc_law_cell kV_law_cell dc_law_cell pm_law_cell cd_law_cell ct_law_cell : Value} {od_law_cell an_law_cell : Option Addr} {sl_law_cell : Array (Option Value)}
    {oc_law_draws kV_law_draws dc_law_draws pm_law_draws cd_law_draws ct_law_draws : Value} {od_law_draws an_law_draws : Option Addr} {sl_law_draws : Array (Option Value)}
    {oc_law_sign kV_law_sign dc_law_sign pm_law_sign cd_law_sign ct_law_sign : Value} {od_law_sign an_law_sign : Option Addr} {sl_law_sign : Array (Option Value)}
    {oc_law_text kV_law_text dc_law_text pm_law_text cd_law_text ct_law_text : Value} {od_law_text an_law_text : Option Addr} {sl_law_text : Array (Option Value)}
    {oc_law_names kV_law_names dc_law_names pm_law_names cd_law_names ct_law_names : Value} {od_law_names an_law_names : Option Addr} {sl_law_names : Array (Option Value)}
    {oc_law_is_integer kV_law_is_integer dc_law_is_integer pm_law_is_integer cd_law_is_integer ct_law_is_integer : Value} {od_law_is_integer an_law_is_integer : Option Addr} {sl_law_is_integer : Array (Option Value)}
    {oc_law_command kV_law_command dc_law_command pm_law_command cd_law_command ct_law_command : Value} {od_law_command an_law_command : Option Addr} {sl_law_command : Array (Option Value)}
    {oc_law_line kV_law_line dc_law_line pm_law_line cd_law_line ct_law_line : Value} {od_law_line an_law_line : Option Addr} {sl_law_line : Array (Option Value)}
    {oc_law_integer kV_law_integer dc_law_integer pm_law_integer cd_law_integer ct_law_integer : Value} {od_law_integer an_law_integer : Option Addr} {sl_law_integer : Array (Option Value)}
    {oc_law_is_name kV_law_is_name dc_law_is_name pm_law_is_name cd_law_is_name ct_law_is_name : Value} {od_law_is_name an_law_is_name : Option Addr} {sl_law_is_name : Array (Option Value)}
    {oc_law_put_reading kV_law_put_reading dc_law_put_reading pm_law_put_reading cd_law_put_reading ct_law_put_reading : Value} {od_law_put_reading an_law_put_reading : Option Addr} {sl_law_put_reading : Array (Option Value)}
    {oc_law_reading kV_law_reading dc_law_reading pm_law_reading cd_law_reading ct_law_reading : Value} {od_law_reading an_law_reading : Option Addr} {sl_law_reading : Array (Option Value)}
    {oc_law_odd_part kV_law_odd_part dc_law_odd_part pm_law_odd_part cd_law_odd_part ct_law_odd_part : Value} {od_law_odd_part an_law_odd_part : Option Addr} {sl_law_odd_part : Array (Option Value)}
    {oc_law_odd_line kV_law_odd_line dc_law_odd_line pm_law_odd_line cd_law_odd_line ct_law_odd_line : Value} {od_law_odd_line an_law_odd_line : Option Addr} {sl_law_odd_line : Array (Option Value)}
    {oc_law_odd_seats kV_law_odd_seats dc_law_odd_seats pm_law_odd_seats cd_law_odd_seats ct_law_odd_seats : Value} {od_law_odd_seats an_law_odd_seats : Option Addr} {sl_law_odd_seats : Array (Option Value)}
    {oc_law_replaced kV_law_replaced dc_law_replaced pm_law_replaced cd_law_replaced ct_law_replaced : Value} {od_law_replaced an_law_replaced : Option Addr} {sl_law_replaced : Array (Option Value)}
    {oc_law_other_line kV_law_other_line dc_law_other_line pm_law_other_line cd_law_other_line ct_law_other_line : Value} {od_law_other_line an_law_other_line : Option Addr} {sl_law_other_line : Array (Option Value)}
    {oc_law_alike kV_law_alike dc_law_alike pm_law_alike cd_law_alike ct_law_alike : Value} {od_law_alike an_law_alike : Option Addr} {sl_law_alike : Array (Option Value)}
    {oc_law_parsed kV_law_parsed dc_law_parsed pm_law_parsed cd_law_parsed ct_law_parsed : Value} {od_law_parsed an_law_parsed : Option Addr} {sl_law_parsed : Array (Option Value)}
    {oc_law_there_and_back kV_law_there_and_back dc_law_there_and_back pm_law_there_and_back cd_law_there_and_back ct_law_there_and_back : Value} {od_law_there_and_back an_law_there_and_back : Option Addr} {sl_law_there_and_back : Array (Option Value)}
    {oc_law_judged kV_law_judged dc_law_judged pm_law_judged cd_law_judged ct_law_judged : Value} {od_law_judged an_law_judged : Option Addr} {sl_law_judged : Array (Option Value)}
    {oc_law kV_law dc_law pm_law cd_law ct_law : Value} {od_law an_law : Option Addr} {sl_law : Array (Option Value)}
    (z_ValueError : PySem.W.nsIn K mainGlobals "ValueError" = some none)
    (z_abs : PySem.W.nsIn K mainGlobals "abs" = some none)
    (z_all : PySem.W.nsIn K mainGlobals "all" = some none)
    (z_bool : PySem.W.nsIn K mainGlobals "bool" = some none)
    (z_int : PySem.W.nsIn K mainGlobals "int" = some none)
    (z_isinstance : PySem.W.nsIn K mainGlobals "isinstance" = some none)
    (z_len : PySem.W.nsIn K mainGlobals "len" = some none)
    (z_min : PySem.W.nsIn K mainGlobals "min" = some none)
    (z_range : PySem.W.nsIn K mainGlobals "range" = some none)
    (z_str : PySem.W.nsIn K mainGlobals "str" = some none)
    (z_tuple : PySem.W.nsIn K mainGlobals "tuple" = some none)
    (kq_NUMBERED : PySem.W.nsIn K mainGlobals "NUMBERED" = some (some (.ref kt_NUMBERED)))
    (kl_NUMBERED : K.lookup kt_NUMBERED = some ⟨.type "dict", none, .dict #[⟨h0_NUMBERED, .str "send" t0_NUMBERED, .int 2 u0_NUMBERED⟩, ⟨h1_NUMBERED, .str "add" t1_NUMBERED, .int 2 u1_NUMBERED⟩, ⟨h2_NUMBERED, .str "drop" t2_NUMBERED, .int 2 u2_NUMBERED⟩, ⟨h3_NUMBERED, .str "cap" t3_NUMBERED, .int 2 u3_NUMBERED⟩, ⟨h4_NUMBERED, .str "lose" t4_NUMBERED, .int 1 u4_NUMBERED⟩] kn_NUMBERED, #[]⟩)
    (ks_NUMBERED : (kt_NUMBERED == sysModules) = false)
    (hh0_NUMBERED : h0_NUMBERED = PySem.hashStr w "send")
    (hh1_NUMBERED : h1_NUMBERED = PySem.hashStr w "add")
    (hh2_NUMBERED : h2_NUMBERED = PySem.hashStr w "drop")
    (hh3_NUMBERED : h3_NUMBERED = PySem.hashStr w "cap")
    (hh4_NUMBERED : h4_NUMBERED = PySem.hashStr w "lose")
    (kq_ALONE : PySem.W.nsIn K mainGlobals "ALONE" = some (some (.ref kt_ALONE)))
    (ks_ALONE : K.lookup kt_ALONE = some ⟨.type "tuple", ko_ALONE, .seq #[.str "names" t0_ALONE, .str "sends" t1_ALONE, .str "mend" t2_ALONE, .str "pack" t3_ALONE] kn_ALONE, kl_ALONE⟩)
    (kq_NAMED : PySem.W.nsIn K mainGlobals "NAMED" = some (some (.ref kt_NAMED)))
    (ks_NAMED : K.lookup kt_NAMED = some ⟨.type "tuple", ko_NAMED, .seq #[.str "read" t0_NAMED, .str "erase" t1_NAMED] kn_NAMED, kl_NAMED⟩)
    (aC_InvalidLine : PySem.W.nsIn K mainGlobals "InvalidLine" = some (some (.ref C_InvalidLine)))
    (aC_PoolError : PySem.W.nsIn K mainGlobals "PoolError" = some (some (.ref C_PoolError)))
    (aC_InvalidText : PySem.W.nsIn K mainGlobals "InvalidText" = some (some (.ref C_InvalidText)))
    (aC_InvalidSeats : PySem.W.nsIn K mainGlobals "InvalidSeats" = some (some (.ref C_InvalidSeats)))
    (aC_InvalidName : PySem.W.nsIn K mainGlobals "InvalidName" = some (some (.ref C_InvalidName)))
    (aC_Missing : PySem.W.nsIn K mainGlobals "Missing" = some (some (.ref C_Missing)))
    (xhg_InvalidLine : PySem.W.findIn K (.ref C_InvalidLine) "__getattribute__" = some (some (.builtin "BaseException.__getattribute__")))
    (xhk_InvalidLine : PySem.W.findIn K (.ref C_InvalidLine) "__getattr__" = some none)
    (xb_InvalidLine : PySem.W.subIn K (.ref C_InvalidLine) (.type "BaseException") = some true)
    (xhd_InvalidLine : PySem.W.hasDictIn K C_InvalidLine = true)
    (xha_InvalidLine : PySem.W.findIn K (.ref C_InvalidLine) "__class__" = some (some (.builtin "object.__class__")))
    (xhn_InvalidLine : PySem.W.specialIn K (.builtin "object.__class__") "__get__" = some (some (.builtin "getset_descriptor.__get__")))
    (xht_InvalidLine : PySem.W.takesIn K (.builtin "object.__class__") = some true)
    (xhm_InvalidLine : PySem.W.mroIn K C_InvalidLine (.type "object") = some true)
    (xL_InvalidLine : K.lookup C_InvalidLine = some (excClassObj nmE_InvalidLine qE_InvalidLine C_InvalidLine NE_InvalidLine bsE_InvalidLine [.ref C_PoolError, .type "ValueError", .type "Exception", .type "BaseException", .type "object"] true snE_InvalidLine subE_InvalidLine abE_InvalidLine colE_InvalidLine ddE_InvalidLine m0_InvalidLine m1_InvalidLine m2_InvalidLine m3_InvalidLine m5_InvalidLine "ValueError.__new__"))
    (xsa_InvalidLine : PySem.W.findIn K (.ref C_InvalidLine) "__setattr__" = some (some (.builtin "object.__setattr__")))
    (xty_InvalidLine : PySem.W.typeIn K (.ref C_InvalidLine) = some (.type "type"))
    (xkp_InvalidLine : PySem.W.keepIn K (.ref C_InvalidLine) = true)
    (hn_InvalidLine : PySem.W.findIn K (.ref C_InvalidLine) "text" = some none)
    (xiC_InvalidLine : PySem.W.findIn K (.ref C_InvalidLine) "__init__" = some (some (.ref fI_InvalidLine)))
    (xtI_InvalidLine : PySem.W.typeIn K (.ref fI_InvalidLine) = some (.type "function"))
    (xlI_InvalidLine : K.lookup fI_InvalidLine = some ⟨ocI_InvalidLine, odI_InvalidLine, .func (PySem.W.fnOf "__init__" "InvalidLine.__init__" (defArgs sI_InvalidLine) (defBody sI_InvalidLine) (defScope sI_InvalidLine) .none kVI_InvalidLine dcI_InvalidLine pmI_InvalidLine anI_InvalidLine cdI_InvalidLine ctI_InvalidLine), slI_InvalidLine⟩)
    (xcI_InvalidLine : PySem.W.codeIn K cdI_InvalidLine "InvalidLine.__init__" = true)
    (xkI_InvalidLine : PySem.W.keepIn K (.ref fI_InvalidLine) = true)
    (xm_InvalidLine_InvalidLine : PySem.W.exmOne K (.ref C_InvalidLine) (.ref C_InvalidLine) = some true)
    (xs_InvalidLine_PoolError : PySem.W.kitOne K (.ref C_InvalidLine) (.ref C_PoolError) = some true)
    (xs_InvalidLine_ValueError : PySem.W.kitOne K (.ref C_InvalidLine) (.type "ValueError") = some true)
    (xs_InvalidLine_InvalidText : PySem.W.kitOne K (.ref C_InvalidLine) (.ref C_InvalidText) = some false)
    (xs_InvalidLine_InvalidSeats : PySem.W.kitOne K (.ref C_InvalidLine) (.ref C_InvalidSeats) = some false)
    (xs_InvalidLine_InvalidName : PySem.W.kitOne K (.ref C_InvalidLine) (.ref C_InvalidName) = some false)
    (xs_InvalidLine_Missing : PySem.W.kitOne K (.ref C_InvalidLine) (.ref C_Missing) = some false)
    (a_is_name : PySem.W.nsIn K mainGlobals "is_name" = some (some (.ref f_is_name)))
    (l_is_name : K.lookup f_is_name = some ⟨oc_is_name, od_is_name, .func (PySem.W.fnOf "is_name" "is_name" (defArgs s_is_name) (defBody s_is_name) (defScope s_is_name) .none kV_is_name dc_is_name pm_is_name an_is_name cd_is_name ct_is_name), sl_is_name⟩)
    (c_is_name : PySem.W.codeIn K cd_is_name "is_name" = true)
    (k_is_name : PySem.W.keepIn K (.ref f_is_name) = true)
    (a_is_number : PySem.W.nsIn K mainGlobals "is_number" = some (some (.ref f_is_number)))
    (l_is_number : K.lookup f_is_number = some ⟨oc_is_number, od_is_number, .func (PySem.W.fnOf "is_number" "is_number" (defArgs s_is_number) (defBody s_is_number) (defScope s_is_number) .none kV_is_number dc_is_number pm_is_number an_is_number cd_is_number ct_is_number), sl_is_number⟩)
    (c_is_number : PySem.W.codeIn K cd_is_number "is_number" = true)
    (k_is_number : PySem.W.keepIn K (.ref f_is_number) = true)
    (a_joined : PySem.W.nsIn K mainGlobals "joined" = some (some (.ref f_joined)))
    (l_joined : K.lookup f_joined = some ⟨oc_joined, od_joined, .func (PySem.W.fnOf "joined" "joined" (defArgs s_joined) (defBody s_joined) (defScope s_joined) .none kV_joined dc_joined pm_joined an_joined cd_joined ct_joined), sl_joined⟩)
    (c_joined : PySem.W.codeIn K cd_joined "joined" = true)
    (k_joined : PySem.W.keepIn K (.ref f_joined) = true)
    (a_read_joined : PySem.W.nsIn K mainGlobals "read_joined" = some (some (.ref f_read_joined)))
    (l_read_joined : K.lookup f_read_joined = some ⟨oc_read_joined, od_read_joined, .func (PySem.W.fnOf "read_joined" "read_joined" (defArgs s_read_joined) (defBody s_read_joined) (defScope s_read_joined) .none kV_read_joined dc_read_joined pm_read_joined an_read_joined cd_read_joined ct_read_joined), sl_read_joined⟩)
    (c_read_joined : PySem.W.codeIn K cd_read_joined "read_joined" = true)
    (k_read_joined : PySem.W.keepIn K (.ref f_read_joined) = true)
    (a_command_line : PySem.W.nsIn K mainGlobals "command_line" = some (some (.ref f_command_line)))
    (l_command_line : K.lookup f_command_line = some ⟨oc_command_line, od_command_line, .func (PySem.W.fnOf "command_line" "command_line" (defArgs s_command_line) (defBody s_command_line) (defScope s_command_line) .none kV_command_line dc_command_line pm_command_line an_command_line cd_command_line ct_command_line), sl_command_line⟩)
    (c_command_line : PySem.W.codeIn K cd_command_line "command_line" = true)
    (k_command_line : PySem.W.keepIn K (.ref f_command_line) = true)
    (a_parse_line : PySem.W.nsIn K mainGlobals "parse_line" = some (some (.ref f_parse_line)))
    (l_parse_line : K.lookup f_parse_line = some ⟨oc_parse_line, od_parse_line, .func (PySem.W.fnOf "parse_line" "parse_line" (defArgs s_parse_line) (defBody s_parse_line) (defScope s_parse_line) .none kV_parse_line dc_parse_line pm_parse_line an_parse_line cd_parse_line ct_parse_line), sl_parse_line⟩)
    (c_parse_line : PySem.W.codeIn K cd_parse_line "parse_line" = true)
    (k_parse_line : PySem.W.keepIn K (.ref f_parse_line) = true)
    (a_read_line : PySem.W.nsIn K mainGlobals "_read_line" = some (some (.ref f_read_line)))
    (l_read_line : K.lookup f_read_line = some ⟨oc_read_line, od_read_line, .func (PySem.W.fnOf "_read_line" "_read_line" (defArgs s_read_line) (defBody s_read_line) (defScope s_read_line) .none kV_read_line dc_read_line pm_read_line an_read_line cd_read_line ct_read_line), sl_read_line⟩)
    (c_read_line : PySem.W.codeIn K cd_read_line "_read_line" = true)
    (k_read_line : PySem.W.keepIn K (.ref f_read_line) = true)
    (a_read_put : PySem.W.nsIn K mainGlobals "_read_put" = some (some (.ref f_read_put)))
    (l_read_put : K.lookup f_read_put = some ⟨oc_read_put, od_read_put, .func (PySem.W.fnOf "_read_put" "_read_put" (defArgs s_read_put) (defBody s_read_put) (defScope s_read_put) .none kV_read_put dc_read_put pm_read_put an_read_put cd_read_put ct_read_put), sl_read_put⟩)
    (c_read_put : PySem.W.codeIn K cd_read_put "_read_put" = true)
    (k_read_put : PySem.W.keepIn K (.ref f_read_put) = true)
    (a_put_line : PySem.W.nsIn K mainGlobals "_put_line" = some (some (.ref f_put_line)))
    (l_put_line : K.lookup f_put_line = some ⟨oc_put_line, od_put_line, .func (PySem.W.fnOf "_put_line" "_put_line" (defArgs s_put_line) (defBody s_put_line) (defScope s_put_line) .none kV_put_line dc_put_line pm_put_line an_put_line cd_put_line ct_put_line), sl_put_line⟩)
    (c_put_line : PySem.W.codeIn K cd_put_line "_put_line" = true)
    (k_put_line : PySem.W.keepIn K (.ref f_put_line) = true)
    (a_law_cell : PySem.W.nsIn K mainGlobals "_law_cell" = some (some (.ref f_law_cell)))
    (l_law_cell : K.lookup f_law_cell = some ⟨oc_law_cell, od_law_cell, .func (PySem.W.fnOf "_law_cell" "_law_cell" (defArgs s_law_cell) (defBody s_law_cell) (defScope s_law_cell) .none kV_law_cell dc_law_cell pm_law_cell an_law_cell cd_law_cell ct_law_cell), sl_law_cell⟩)
    (c_law_cell : PySem.W.codeIn K cd_law_cell "_law_cell" = true)
    (k_law_cell : PySem.W.keepIn K (.ref f_law_cell) = true)
    (a_law_draws : PySem.W.nsIn K mainGlobals "_law_draws" = some (some (.ref f_law_draws)))
    (l_law_draws : K.lookup f_law_draws = some ⟨oc_law_draws, od_law_draws, .func (PySem.W.fnOf "_law_draws" "_law_draws" (defArgs s_law_draws) (defBody s_law_draws) (defScope s_law_draws) .none kV_law_draws dc_law_draws pm_law_draws an_law_draws cd_law_draws ct_law_draws), sl_law_draws⟩)
    (c_law_draws : PySem.W.codeIn K cd_law_draws "_law_draws" = true)
    (k_law_draws : PySem.W.keepIn K (.ref f_law_draws) = true)
    (a_law_sign : PySem.W.nsIn K mainGlobals "_law_sign" = some (some (.ref f_law_sign)))
    (l_law_sign : K.lookup f_law_sign = some ⟨oc_law_sign, od_law_sign, .func (PySem.W.fnOf "_law_sign" "_law_sign" (defArgs s_law_sign) (defBody s_law_sign) (defScope s_law_sign) .none kV_law_sign dc_law_sign pm_law_sign an_law_sign cd_law_sign ct_law_sign), sl_law_sign⟩)
    (c_law_sign : PySem.W.codeIn K cd_law_sign "_law_sign" = true)
    (k_law_sign : PySem.W.keepIn K (.ref f_law_sign) = true)
    (a_law_text : PySem.W.nsIn K mainGlobals "_law_text" = some (some (.ref f_law_text)))
    (l_law_text : K.lookup f_law_text = some ⟨oc_law_text, od_law_text, .func (PySem.W.fnOf "_law_text" "_law_text" (defArgs s_law_text) (defBody s_law_text) (defScope s_law_text) .none kV_law_text dc_law_text pm_law_text an_law_text cd_law_text ct_law_text), sl_law_text⟩)
    (c_law_text : PySem.W.codeIn K cd_law_text "_law_text" = true)
    (k_law_text : PySem.W.keepIn K (.ref f_law_text) = true)
    (a_law_names : PySem.W.nsIn K mainGlobals "_law_names" = some (some (.ref f_law_names)))
    (l_law_names : K.lookup f_law_names = some ⟨oc_law_names, od_law_names, .func (PySem.W.fnOf "_law_names" "_law_names" (defArgs s_law_names) (defBody s_law_names) (defScope s_law_names) .none kV_law_names dc_law_names pm_law_names an_law_names cd_law_names ct_law_names), sl_law_names⟩)
    (c_law_names : PySem.W.codeIn K cd_law_names "_law_names" = true)
    (k_law_names : PySem.W.keepIn K (.ref f_law_names) = true)
    (a_law_is_integer : PySem.W.nsIn K mainGlobals "_law_is_integer" = some (some (.ref f_law_is_integer)))
    (l_law_is_integer : K.lookup f_law_is_integer = some ⟨oc_law_is_integer, od_law_is_integer, .func (PySem.W.fnOf "_law_is_integer" "_law_is_integer" (defArgs s_law_is_integer) (defBody s_law_is_integer) (defScope s_law_is_integer) .none kV_law_is_integer dc_law_is_integer pm_law_is_integer an_law_is_integer cd_law_is_integer ct_law_is_integer), sl_law_is_integer⟩)
    (c_law_is_integer : PySem.W.codeIn K cd_law_is_integer "_law_is_integer" = true)
    (k_law_is_integer : PySem.W.keepIn K (.ref f_law_is_integer) = true)
    (a_law_command : PySem.W.nsIn K mainGlobals "_law_command" = some (some (.ref f_law_command)))
    (l_law_command : K.lookup f_law_command = some ⟨oc_law_command, od_law_command, .func (PySem.W.fnOf "_law_command" "_law_command" (defArgs s_law_command) (defBody s_law_command) (defScope s_law_command) .none kV_law_command dc_law_command pm_law_command an_law_command cd_law_command ct_law_command), sl_law_command⟩)
    (c_law_command : PySem.W.codeIn K cd_law_command "_law_command" = true)
    (k_law_command : PySem.W.keepIn K (.ref f_law_command) = true)
    (a_law_line : PySem.W.nsIn K mainGlobals "_law_line" = some (some (.ref f_law_line)))
    (l_law_line : K.lookup f_law_line = some ⟨oc_law_line, od_law_line, .func (PySem.W.fnOf "_law_line" "_law_line" (defArgs s_law_line) (defBody s_law_line) (defScope s_law_line) .none kV_law_line dc_law_line pm_law_line an_law_line cd_law_line ct_law_line), sl_law_line⟩)
    (c_law_line : PySem.W.codeIn K cd_law_line "_law_line" = true)
    (k_law_line : PySem.W.keepIn K (.ref f_law_line) = true)
    (a_law_integer : PySem.W.nsIn K mainGlobals "_law_integer" = some (some (.ref f_law_integer)))
    (l_law_integer : K.lookup f_law_integer = some ⟨oc_law_integer, od_law_integer, .func (PySem.W.fnOf "_law_integer" "_law_integer" (defArgs s_law_integer) (defBody s_law_integer) (defScope s_law_integer) .none kV_law_integer dc_law_integer pm_law_integer an_law_integer cd_law_integer ct_law_integer), sl_law_integer⟩)
    (c_law_integer : PySem.W.codeIn K cd_law_integer "_law_integer" = true)
    (k_law_integer : PySem.W.keepIn K (.ref f_law_integer) = true)
    (a_law_is_name : PySem.W.nsIn K mainGlobals "_law_is_name" = some (some (.ref f_law_is_name)))
    (l_law_is_name : K.lookup f_law_is_name = some ⟨oc_law_is_name, od_law_is_name, .func (PySem.W.fnOf "_law_is_name" "_law_is_name" (defArgs s_law_is_name) (defBody s_law_is_name) (defScope s_law_is_name) .none kV_law_is_name dc_law_is_name pm_law_is_name an_law_is_name cd_law_is_name ct_law_is_name), sl_law_is_name⟩)
    (c_law_is_name : PySem.W.codeIn K cd_law_is_name "_law_is_name" = true)
    (k_law_is_name : PySem.W.keepIn K (.ref f_law_is_name) = true)
    (a_law_put_reading : PySem.W.nsIn K mainGlobals "_law_put_reading" = some (some (.ref f_law_put_reading)))
    (l_law_put_reading : K.lookup f_law_put_reading = some ⟨oc_law_put_reading, od_law_put_reading, .func (PySem.W.fnOf "_law_put_reading" "_law_put_reading" (defArgs s_law_put_reading) (defBody s_law_put_reading) (defScope s_law_put_reading) .none kV_law_put_reading dc_law_put_reading pm_law_put_reading an_law_put_reading cd_law_put_reading ct_law_put_reading), sl_law_put_reading⟩)
    (c_law_put_reading : PySem.W.codeIn K cd_law_put_reading "_law_put_reading" = true)
    (k_law_put_reading : PySem.W.keepIn K (.ref f_law_put_reading) = true)
    (a_law_reading : PySem.W.nsIn K mainGlobals "_law_reading" = some (some (.ref f_law_reading)))
    (l_law_reading : K.lookup f_law_reading = some ⟨oc_law_reading, od_law_reading, .func (PySem.W.fnOf "_law_reading" "_law_reading" (defArgs s_law_reading) (defBody s_law_reading) (defScope s_law_reading) .none kV_law_reading dc_law_reading pm_law_reading an_law_reading cd_law_reading ct_law_reading), sl_law_reading⟩)
    (c_law_reading : PySem.W.codeIn K cd_law_reading "_law_reading" = true)
    (k_law_reading : PySem.W.keepIn K (.ref f_law_reading) = true)
    (a_law_odd_part : PySem.W.nsIn K mainGlobals "_law_odd_part" = some (some (.ref f_law_odd_part)))
    (l_law_odd_part : K.lookup f_law_odd_part = some ⟨oc_law_odd_part, od_law_odd_part, .func (PySem.W.fnOf "_law_odd_part" "_law_odd_part" (defArgs s_law_odd_part) (defBody s_law_odd_part) (defScope s_law_odd_part) .none kV_law_odd_part dc_law_odd_part pm_law_odd_part an_law_odd_part cd_law_odd_part ct_law_odd_part), sl_law_odd_part⟩)
    (c_law_odd_part : PySem.W.codeIn K cd_law_odd_part "_law_odd_part" = true)
    (k_law_odd_part : PySem.W.keepIn K (.ref f_law_odd_part) = true)
    (a_law_odd_line : PySem.W.nsIn K mainGlobals "_law_odd_line" = some (some (.ref f_law_odd_line)))
    (l_law_odd_line : K.lookup f_law_odd_line = some ⟨oc_law_odd_line, od_law_odd_line, .func (PySem.W.fnOf "_law_odd_line" "_law_odd_line" (defArgs s_law_odd_line) (defBody s_law_odd_line) (defScope s_law_odd_line) .none kV_law_odd_line dc_law_odd_line pm_law_odd_line an_law_odd_line cd_law_odd_line ct_law_odd_line), sl_law_odd_line⟩)
    (c_law_odd_line : PySem.W.codeIn K cd_law_odd_line "_law_odd_line" = true)
    (k_law_odd_line : PySem.W.keepIn K (.ref f_law_odd_line) = true)
    (a_law_odd_seats : PySem.W.nsIn K mainGlobals "_law_odd_seats" = some (some (.ref f_law_odd_seats)))
    (l_law_odd_seats : K.lookup f_law_odd_seats = some ⟨oc_law_odd_seats, od_law_odd_seats, .func (PySem.W.fnOf "_law_odd_seats" "_law_odd_seats" (defArgs s_law_odd_seats) (defBody s_law_odd_seats) (defScope s_law_odd_seats) .none kV_law_odd_seats dc_law_odd_seats pm_law_odd_seats an_law_odd_seats cd_law_odd_seats ct_law_odd_seats), sl_law_odd_seats⟩)
    (c_law_odd_seats : PySem.W.codeIn K cd_law_odd_seats "_law_odd_seats" = true)
    (k_law_odd_seats : PySem.W.keepIn K (.ref f_law_odd_seats) = true)
    (a_law_replaced : PySem.W.nsIn K mainGlobals "_law_replaced" = some (some (.ref f_law_replaced)))
    (l_law_replaced : K.lookup f_law_replaced = some ⟨oc_law_replaced, od_law_replaced, .func (PySem.W.fnOf "_law_replaced" "_law_replaced" (defArgs s_law_replaced) (defBody s_law_replaced) (defScope s_law_replaced) .none kV_law_replaced dc_law_replaced pm_law_replaced an_law_replaced cd_law_replaced ct_law_replaced), sl_law_replaced⟩)
    (c_law_replaced : PySem.W.codeIn K cd_law_replaced "_law_replaced" = true)
    (k_law_replaced : PySem.W.keepIn K (.ref f_law_replaced) = true)
    (a_law_other_line : PySem.W.nsIn K mainGlobals "_law_other_line" = some (some (.ref f_law_other_line)))
    (l_law_other_line : K.lookup f_law_other_line = some ⟨oc_law_other_line, od_law_other_line, .func (PySem.W.fnOf "_law_other_line" "_law_other_line" (defArgs s_law_other_line) (defBody s_law_other_line) (defScope s_law_other_line) .none kV_law_other_line dc_law_other_line pm_law_other_line an_law_other_line cd_law_other_line ct_law_other_line), sl_law_other_line⟩)
    (c_law_other_line : PySem.W.codeIn K cd_law_other_line "_law_other_line" = true)
    (k_law_other_line : PySem.W.keepIn K (.ref f_law_other_line) = true)
    (a_law_alike : PySem.W.nsIn K mainGlobals "_law_alike" = some (some (.ref f_law_alike)))
    (l_law_alike : K.lookup f_law_alike = some ⟨oc_law_alike, od_law_alike, .func (PySem.W.fnOf "_law_alike" "_law_alike" (defArgs s_law_alike) (defBody s_law_alike) (defScope s_law_alike) .none kV_law_alike dc_law_alike pm_law_alike an_law_alike cd_law_alike ct_law_alike), sl_law_alike⟩)
    (c_law_alike : PySem.W.codeIn K cd_law_alike "_law_alike" = true)
    (k_law_alike : PySem.W.keepIn K (.ref f_law_alike) = true)
    (a_law_parsed : PySem.W.nsIn K mainGlobals "_law_parsed" = some (some (.ref f_law_parsed)))
    (l_law_parsed : K.lookup f_law_parsed = some ⟨oc_law_parsed, od_law_parsed, .func (PySem.W.fnOf "_law_parsed" "_law_parsed" (defArgs s_law_parsed) (defBody s_law_parsed) (defScope s_law_parsed) .none kV_law_parsed dc_law_parsed pm_law_parsed an_law_parsed cd_law_parsed ct_law_parsed), sl_law_parsed⟩)
    (c_law_parsed : PySem.W.codeIn K cd_law_parsed "_law_parsed" = true)
    (k_law_parsed : PySem.W.keepIn K (.ref f_law_parsed) = true)
    (a_law_there_and_back : PySem.W.nsIn K mainGlobals "_law_there_and_back" = some (some (.ref f_law_there_and_back)))
    (l_law_there_and_back : K.lookup f_law_there_and_back = some ⟨oc_law_there_and_back, od_law_there_and_back, .func (PySem.W.fnOf "_law_there_and_back" "_law_there_and_back" (defArgs s_law_there_and_back) (defBody s_law_there_and_back) (defScope s_law_there_and_back) .none kV_law_there_and_back dc_law_there_and_back pm_law_there_and_back an_law_there_and_back cd_law_there_and_back ct_law_there_and_back), sl_law_there_and_back⟩)
    (c_law_there_and_back : PySem.W.codeIn K cd_law_there_and_back "_law_there_and_back" = true)
    (k_law_there_and_back : PySem.W.keepIn K (.ref f_law_there_and_back) = true)
    (a_law_judged : PySem.W.nsIn K mainGlobals "_law_judged" = some (some (.ref f_law_judged)))
    (l_law_judged : K.lookup f_law_judged = some ⟨oc_law_judged, od_law_judged, .func (PySem.W.fnOf "_law_judged" "_law_judged" (defArgs s_law_judged) (defBody s_law_judged) (defScope s_law_judged) .none kV_law_judged dc_law_judged pm_law_judged an_law_judged cd_law_judged ct_law_judged), sl_law_judged⟩)
    (c_law_judged : PySem.W.codeIn K cd_law_judged "_law_judged" = true)
    (k_law_judged : PySem.W.keepIn K (.ref f_law_judged) = true)
    (a_law : PySem.W.nsIn K mainGlobals "law" = some (some (.ref f_law)))
    (l_law : K.lookup f_law = some ⟨oc_law, od_law, .func (PySem.W.fnOf "law" "law" (defArgs s_law) (defBody s_law) (defScope s_law) .none kV_law dc_law pm_law an_law cd_law ct_law), sl_law⟩)
    (c_law : PySem.W.codeIn K cd_law "law" = true)
    (k_law : PySem.W.keepIn K (.ref f_law) = true)
    : ∃ fd : FuncData, (∀ (s : Shared) (v : Value), BindsTo s fd ⟨[v], []⟩ [("script", v)]) ∧ ∀ base : Heap, K.In base → base.Ns mainGlobals mg → FnOk l.prog w K mg base CX0 9 fa fd ["script"] (spLaw K) := by
  have e := hfa.symm.trans (PySem.W.mg_of X G a_law)
  cases e
  let T : Txt K mg w := { c := ⟨C_InvalidLine, C_PoolError, C_InvalidText, C_InvalidSeats, C_InvalidName, C_Missing, w, ()⟩, ew := rfl, m_ValueError := PySem.W.mg_none_of X G z_ValueError, m_abs := PySem.W.mg_none_of X G z_abs, m_all := PySem.W.mg_none_of X G z_all, m_bool := PySem.W.mg_none_of X G z_bool, m_int := PySem.W.mg_none_of X G z_int, m_isinstance := PySem.W.mg_none_of X G z_isinstance, m_len := PySem.W.mg_none_of X G z_len, m_min := PySem.W.mg_none_of X G z_min, m_range := PySem.W.mg_none_of X G z_range, m_str := PySem.W.mg_none_of X G z_str, m_tuple := PySem.W.mg_none_of X G z_tuple, kt_NUMBERED := kt_NUMBERED, kq_NUMBERED := PySem.W.mg_of X G kq_NUMBERED, kd_NUMBERED := Zrd.dk_K kl_NUMBERED ks_NUMBERED (.cons hh0_NUMBERED (.cons hh1_NUMBERED (.cons hh2_NUMBERED (.cons hh3_NUMBERED (.cons hh4_NUMBERED .nil))))) (by decide), kt_ALONE := kt_ALONE, kq_ALONE := PySem.W.mg_of X G kq_ALONE, ks_ALONE := Zrc.sqT_K ks_ALONE (by rw [sizeLine_eq]; simp) (.cons ⟨t0_ALONE, rfl⟩ (.cons ⟨t1_ALONE, rfl⟩ (.cons ⟨t2_ALONE, rfl⟩ (.cons ⟨t3_ALONE, rfl⟩ Paired.nil)))), kt_NAMED := kt_NAMED, kq_NAMED := PySem.W.mg_of X G kq_NAMED, ks_NAMED := Zrc.sqT_K ks_NAMED (by rw [sizeLine_eq]; simp) (.cons ⟨t0_NAMED, rfl⟩ (.cons ⟨t1_NAMED, rfl⟩ Paired.nil)), c_InvalidLine := PySem.W.mg_of X G aC_InvalidLine, c_PoolError := PySem.W.mg_of X G aC_PoolError, c_InvalidText := PySem.W.mg_of X G aC_InvalidText, c_InvalidSeats := PySem.W.mg_of X G aC_InvalidSeats, c_InvalidName := PySem.W.mg_of X G aC_InvalidName, c_Missing := PySem.W.mg_of X G aC_Missing, xc_InvalidLine := ⟨xhg_InvalidLine, xhk_InvalidLine, xb_InvalidLine, xhd_InvalidLine, xha_InvalidLine, xhn_InvalidLine, xht_InvalidLine, xhm_InvalidLine⟩, xf_InvalidLine := ⟨xhg_InvalidLine, xhk_InvalidLine, xb_InvalidLine, xhd_InvalidLine⟩, oe_InvalidLine := ⟨⟨nmE_InvalidLine, qE_InvalidLine, NE_InvalidLine, bsE_InvalidLine, _, snE_InvalidLine, subE_InvalidLine, abE_InvalidLine, colE_InvalidLine, ddE_InvalidLine, m0_InvalidLine, m1_InvalidLine, m2_InvalidLine, m3_InvalidLine, m5_InvalidLine, xL_InvalidLine, rfl⟩, xsa_InvalidLine, xb_InvalidLine, xty_InvalidLine, xkp_InvalidLine⟩, hn_InvalidLine_text := hn_InvalidLine, fI_InvalidLine := fI_InvalidLine, fdI_InvalidLine := _, FI_InvalidLine := fun_mk (st := sI_InvalidLine) xlI_InvalidLine xcI_InvalidLine xkI_InvalidLine, bI_InvalidLine := (fun_mk (st := sI_InvalidLine) xlI_InvalidLine xcI_InvalidLine xkI_InvalidLine).binds (ps := ["self", "text"]) fun _ _ _ _ _ _ us hl => match us, hl with | [_, _], _ => rfl, iC_InvalidLine := xiC_InvalidLine, tI_InvalidLine := xtI_InvalidLine, xm_InvalidLine_InvalidLine := xm_InvalidLine_InvalidLine, xs_InvalidLine_PoolError := xs_InvalidLine_PoolError, xs_InvalidLine_ValueError := xs_InvalidLine_ValueError, xs_InvalidLine_InvalidText := xs_InvalidLine_InvalidText, xs_InvalidLine_InvalidSeats := xs_InvalidLine_InvalidSeats, xs_InvalidLine_InvalidName := xs_InvalidLine_InvalidName, xs_InvalidLine_Missing := xs_InvalidLine_Missing, f_is_name := f_is_name, fd_is_name := _, F_is_name := fun_mk (st := s_is_name) l_is_name c_is_name k_is_name, b_is_name := (fun_mk (st := s_is_name) l_is_name c_is_name k_is_name).binds (ps := ["word"]) fun _ _ _ _ _ _ us hl => match us, hl with | [_], _ => rfl, g_is_name := PySem.W.mg_of X G a_is_name, f_is_number := f_is_number, fd_is_number := _, F_is_number := fun_mk (st := s_is_number) l_is_number c_is_number k_is_number, b_is_number := (fun_mk (st := s_is_number) l_is_number c_is_number k_is_number).binds (ps := ["word"]) fun _ _ _ _ _ _ us hl => match us, hl with | [_], _ => rfl, g_is_number := PySem.W.mg_of X G a_is_number, f_joined := f_joined, fd_joined := _, F_joined := fun_mk (st := s_joined) l_joined c_joined k_joined, b_joined := (fun_mk (st := s_joined) l_joined c_joined k_joined).binds (ps := ["numbers"]) fun _ _ _ _ _ _ us hl => match us, hl with | [_], _ => rfl, g_joined := PySem.W.mg_of X G a_joined, f_read_joined := f_read_joined, fd_read_joined := _, F_read_joined := fun_mk (st := s_read_joined) l_read_joined c_read_joined k_read_joined, b_read_joined := (fun_mk (st := s_read_joined) l_read_joined c_read_joined k_read_joined).binds (ps := ["word"]) fun _ _ _ _ _ _ us hl => match us, hl with | [_], _ => rfl, g_read_joined := PySem.W.mg_of X G a_read_joined, f_command_line := f_command_line, fd_command_line := _, F_command_line := fun_mk (st := s_command_line) l_command_line c_command_line k_command_line, b_command_line := (fun_mk (st := s_command_line) l_command_line c_command_line k_command_line).binds (ps := ["command"]) fun _ _ _ _ _ _ us hl => match us, hl with | [_], _ => rfl, g_command_line := PySem.W.mg_of X G a_command_line, f_parse_line := f_parse_line, fd_parse_line := _, F_parse_line := fun_mk (st := s_parse_line) l_parse_line c_parse_line k_parse_line, b_parse_line := (fun_mk (st := s_parse_line) l_parse_line c_parse_line k_parse_line).binds (ps := ["line"]) fun _ _ _ _ _ _ us hl => match us, hl with | [_], _ => rfl, g_parse_line := PySem.W.mg_of X G a_parse_line, f_read_line := f_read_line, fd_read_line := _, F_read_line := fun_mk (st := s_read_line) l_read_line c_read_line k_read_line, b_read_line := (fun_mk (st := s_read_line) l_read_line c_read_line k_read_line).binds (ps := ["line"]) fun _ _ _ _ _ _ us hl => match us, hl with | [_], _ => rfl, g_read_line := PySem.W.mg_of X G a_read_line, f_read_put := f_read_put, fd_read_put := _, F_read_put := fun_mk (st := s_read_put) l_read_put c_read_put k_read_put, b_read_put := (fun_mk (st := s_read_put) l_read_put c_read_put k_read_put).binds (ps := ["rest"]) fun _ _ _ _ _ _ us hl => match us, hl with | [_], _ => rfl, g_read_put := PySem.W.mg_of X G a_read_put, f_put_line := f_put_line, fd_put_line := _, F_put_line := fun_mk (st := s_put_line) l_put_line c_put_line k_put_line, b_put_line := (fun_mk (st := s_put_line) l_put_line c_put_line k_put_line).binds (ps := ["command"]) fun _ _ _ _ _ _ us hl => match us, hl with | [_], _ => rfl, g_put_line := PySem.W.mg_of X G a_put_line, f_law_cell := f_law_cell, fd_law_cell := _, F_law_cell := fun_mk (st := s_law_cell) l_law_cell c_law_cell k_law_cell, b_law_cell := (fun_mk (st := s_law_cell) l_law_cell c_law_cell k_law_cell).binds (ps := ["script", "k"]) fun _ _ _ _ _ _ us hl => match us, hl with | [_, _], _ => rfl, g_law_cell := PySem.W.mg_of X G a_law_cell, f_law_draws := f_law_draws, fd_law_draws := _, F_law_draws := fun_mk (st := s_law_draws) l_law_draws c_law_draws k_law_draws, b_law_draws := (fun_mk (st := s_law_draws) l_law_draws c_law_draws k_law_draws).binds (ps := ["cell", "sizes"]) fun _ _ _ _ _ _ us hl => match us, hl with | [_, _], _ => rfl, g_law_draws := PySem.W.mg_of X G a_law_draws, f_law_sign := f_law_sign, fd_law_sign := _, F_law_sign := fun_mk (st := s_law_sign) l_law_sign c_law_sign k_law_sign, b_law_sign := (fun_mk (st := s_law_sign) l_law_sign c_law_sign k_law_sign).binds (ps := ["number"]) fun _ _ _ _ _ _ us hl => match us, hl with | [_], _ => rfl, g_law_sign := PySem.W.mg_of X G a_law_sign, f_law_text := f_law_text, fd_law_text := _, F_law_text := fun_mk (st := s_law_text) l_law_text c_law_text k_law_text, b_law_text := (fun_mk (st := s_law_text) l_law_text c_law_text k_law_text).binds (ps := ["cell", "size"]) fun _ _ _ _ _ _ us hl => match us, hl with | [_, _], _ => rfl, g_law_text := PySem.W.mg_of X G a_law_text, f_law_names := f_law_names, fd_law_names := _, F_law_names := fun_mk (st := s_law_names) l_law_names c_law_names k_law_names, b_law_names := (fun_mk (st := s_law_names) l_law_names c_law_names k_law_names).binds (ps := ["cell"]) fun _ _ _ _ _ _ us hl => match us, hl with | [_], _ => rfl, g_law_names := PySem.W.mg_of X G a_law_names, f_law_is_integer := f_law_is_integer, fd_law_is_integer := _, F_law_is_integer := fun_mk (st := s_law_is_integer) l_law_is_integer c_law_is_integer k_law_is_integer, b_law_is_integer := (fun_mk (st := s_law_is_integer) l_law_is_integer c_law_is_integer k_law_is_integer).binds (ps := ["actual"]) fun _ _ _ _ _ _ us hl => match us, hl with | [_], _ => rfl, g_law_is_integer := PySem.W.mg_of X G a_law_is_integer, f_law_command := f_law_command, fd_law_command := _, F_law_command := fun_mk (st := s_law_command) l_law_command c_law_command k_law_command, b_law_command := (fun_mk (st := s_law_command) l_law_command c_law_command k_law_command).binds (ps := ["drawn", "names", "text", "cell"]) fun _ _ _ _ _ _ us hl => match us, hl with | [_, _, _, _], _ => rfl, g_law_command := PySem.W.mg_of X G a_law_command, f_law_line := f_law_line, fd_law_line := _, F_law_line := fun_mk (st := s_law_line) l_law_line c_law_line k_law_line, b_law_line := (fun_mk (st := s_law_line) l_law_line c_law_line k_law_line).binds (ps := ["command"]) fun _ _ _ _ _ _ us hl => match us, hl with | [_], _ => rfl, g_law_line := PySem.W.mg_of X G a_law_line, f_law_integer := f_law_integer, fd_law_integer := _, F_law_integer := fun_mk (st := s_law_integer) l_law_integer c_law_integer k_law_integer, b_law_integer := (fun_mk (st := s_law_integer) l_law_integer c_law_integer k_law_integer).binds (ps := ["text"]) fun _ _ _ _ _ _ us hl => match us, hl with | [_], _ => rfl, g_law_integer := PySem.W.mg_of X G a_law_integer, f_law_is_name := f_law_is_name, fd_law_is_name := _, F_law_is_name := fun_mk (st := s_law_is_name) l_law_is_name c_law_is_name k_law_is_name, b_law_is_name := (fun_mk (st := s_law_is_name) l_law_is_name c_law_is_name k_law_is_name).binds (ps := ["text"]) fun _ _ _ _ _ _ us hl => match us, hl with | [_], _ => rfl, g_law_is_name := PySem.W.mg_of X G a_law_is_name, f_law_put_reading := f_law_put_reading, fd_law_put_reading := _, F_law_put_reading := fun_mk (st := s_law_put_reading) l_law_put_reading c_law_put_reading k_law_put_reading, b_law_put_reading := (fun_mk (st := s_law_put_reading) l_law_put_reading c_law_put_reading k_law_put_reading).binds (ps := ["rest"]) fun _ _ _ _ _ _ us hl => match us, hl with | [_], _ => rfl, g_law_put_reading := PySem.W.mg_of X G a_law_put_reading, f_law_reading := f_law_reading, fd_law_reading := _, F_law_reading := fun_mk (st := s_law_reading) l_law_reading c_law_reading k_law_reading, b_law_reading := (fun_mk (st := s_law_reading) l_law_reading c_law_reading k_law_reading).binds (ps := ["line"]) fun _ _ _ _ _ _ us hl => match us, hl with | [_], _ => rfl, g_law_reading := PySem.W.mg_of X G a_law_reading, f_law_odd_part := f_law_odd_part, fd_law_odd_part := _, F_law_odd_part := fun_mk (st := s_law_odd_part) l_law_odd_part c_law_odd_part k_law_odd_part, b_law_odd_part := (fun_mk (st := s_law_odd_part) l_law_odd_part c_law_odd_part k_law_odd_part).binds (ps := ["number"]) fun _ _ _ _ _ _ us hl => match us, hl with | [_], _ => rfl, g_law_odd_part := PySem.W.mg_of X G a_law_odd_part, f_law_odd_line := f_law_odd_line, fd_law_odd_line := _, F_law_odd_line := fun_mk (st := s_law_odd_line) l_law_odd_line c_law_odd_line k_law_odd_line, b_law_odd_line := (fun_mk (st := s_law_odd_line) l_law_odd_line c_law_odd_line k_law_odd_line).binds (ps := ["number"]) fun _ _ _ _ _ _ us hl => match us, hl with | [_], _ => rfl, g_law_odd_line := PySem.W.mg_of X G a_law_odd_line, f_law_odd_seats := f_law_odd_seats, fd_law_odd_seats := _, F_law_odd_seats := fun_mk (st := s_law_odd_seats) l_law_odd_seats c_law_odd_seats k_law_odd_seats, b_law_odd_seats := (fun_mk (st := s_law_odd_seats) l_law_odd_seats c_law_odd_seats k_law_odd_seats).binds (ps := ["number", "odd"]) fun _ _ _ _ _ _ us hl => match us, hl with | [_, _], _ => rfl, g_law_odd_seats := PySem.W.mg_of X G a_law_odd_seats, f_law_replaced := f_law_replaced, fd_law_replaced := _, F_law_replaced := fun_mk (st := s_law_replaced) l_law_replaced c_law_replaced k_law_replaced, b_law_replaced := (fun_mk (st := s_law_replaced) l_law_replaced c_law_replaced k_law_replaced).binds (ps := ["command", "line", "odd", "which"]) fun _ _ _ _ _ _ us hl => match us, hl with | [_, _, _, _], _ => rfl, g_law_replaced := PySem.W.mg_of X G a_law_replaced, f_law_other_line := f_law_other_line, fd_law_other_line := _, F_law_other_line := fun_mk (st := s_law_other_line) l_law_other_line c_law_other_line k_law_other_line, b_law_other_line := (fun_mk (st := s_law_other_line) l_law_other_line c_law_other_line k_law_other_line).binds (ps := ["command", "line", "cell"]) fun _ _ _ _ _ _ us hl => match us, hl with | [_, _, _], _ => rfl, g_law_other_line := PySem.W.mg_of X G a_law_other_line, f_law_alike := f_law_alike, fd_law_alike := _, F_law_alike := fun_mk (st := s_law_alike) l_law_alike c_law_alike k_law_alike, b_law_alike := (fun_mk (st := s_law_alike) l_law_alike c_law_alike k_law_alike).binds (ps := ["told", "due"]) fun _ _ _ _ _ _ us hl => match us, hl with | [_, _], _ => rfl, g_law_alike := PySem.W.mg_of X G a_law_alike, f_law_parsed := f_law_parsed, fd_law_parsed := _, F_law_parsed := fun_mk (st := s_law_parsed) l_law_parsed c_law_parsed k_law_parsed, b_law_parsed := (fun_mk (st := s_law_parsed) l_law_parsed c_law_parsed k_law_parsed).binds (ps := ["line"]) fun _ _ _ _ _ _ us hl => match us, hl with | [_], _ => rfl, g_law_parsed := PySem.W.mg_of X G a_law_parsed, f_law_there_and_back := f_law_there_and_back, fd_law_there_and_back := _, F_law_there_and_back := fun_mk (st := s_law_there_and_back) l_law_there_and_back c_law_there_and_back k_law_there_and_back, b_law_there_and_back := (fun_mk (st := s_law_there_and_back) l_law_there_and_back c_law_there_and_back k_law_there_and_back).binds (ps := ["command", "line"]) fun _ _ _ _ _ _ us hl => match us, hl with | [_, _], _ => rfl, g_law_there_and_back := PySem.W.mg_of X G a_law_there_and_back, f_law_judged := f_law_judged, fd_law_judged := _, F_law_judged := fun_mk (st := s_law_judged) l_law_judged c_law_judged k_law_judged, b_law_judged := (fun_mk (st := s_law_judged) l_law_judged c_law_judged k_law_judged).binds (ps := ["line"]) fun _ _ _ _ _ _ us hl => match us, hl with | [_], _ => rfl, g_law_judged := PySem.W.mg_of X G a_law_judged, f_law := fa, fd_law := _, F_law := fun_mk (st := s_law) l_law c_law k_law, b_law := (fun_mk (st := s_law) l_law c_law k_law).binds (ps := ["script"]) fun _ _ _ _ _ _ us hl => match us, hl with | [_], _ => rfl, g_law := PySem.W.mg_of X G a_law }
  exact ⟨T.fd_law, fun s v => .of_eq rfl, fun base _ _ => law_sp main T⟩
theorem walk {l : PySem.W.OpenLaw} {q : Program} {loose : List Str} {XP : (Str → Option Value) → Heap → Prop} {YP : World → Heap → Prop} {d : DefRec} {K : Params → PySem.W.Frag} (hn : l.most = some 63) (hdf : d.params.defaults = [])
    (hY : ∀ (w : World) (h : Heap), YP w h → (K w.params).In h)
    (F : ∀ (w : World) (mg : Str → Option Value) (fa : Addr) (h : Heap), (K w.params).In h → h.Ns mainGlobals mg → mg d.name = some (.ref fa) →
      ∃ fd : FuncData, (∀ (s : Shared) (u : Value), BindsTo s fd ⟨[u], []⟩ [("script", u)]) ∧ ∀ base : Heap, (K w.params).In base → base.Ns mainGlobals mg → FnOk l.prog w (K w.params) mg base CX0 9 fa fd ["script"] (spLaw (K w.params))) :
    PySem.W.WalkO q loose XP YP l.row.toRowW d [] (fun f vs => PySem.call f vs) :=
  L2.walk_of (n := 63) (k := 9) (x := "script") (CX := fun _ => CX0) (sp := fun w => spLaw (K w.params)) hn (by decide) hdf ⟨rfl, by decide, by decide⟩ hY F (fun _ _ a ns hl _ hS => ⟨a, ns, rfl, hS, hl, fun _ => rfl⟩) fun _ _ _ _ _ z => z
end Y
open PySem PySem.W PyProof.Rows in
set_option maxRecDepth 100000 in
set_option maxHeartbeats 0 in
theorem PySem.Challenge.cw_pairwarden_k31_commands_there_and_back_holds : PySem.Challenge.rw_pairwarden_k31_commands_there_and_back.Holds := by
  w_on; o_law; k_head; (case hw => w_witness2)
  k_fill
  refine Y.walk (l := PySem.Challenge.rw_pairwarden_k31_commands_there_and_back) rfl rfl (fun w h Y => PySem.W.kIn_of Y) ?F
  case F =>
    intro w mg fa h KX G hmg
    refine' Y.all_mk Y.main KX G hmg ?z_ValueError ?z_abs ?z_all ?z_bool ?z_int ?z_isinstance ?z_len ?z_min ?z_range ?z_str ?z_tuple ?kq_NUMBERED ?kl_NUMBERED ?ks_NUMBERED ?hh0_NUMBERED ?hh1_NUMBERED ?hh2_NUMBERED ?hh3_NUMBERED ?hh4_NUMBERED ?kq_ALONE ?ks_ALONE ?kq_NAMED ?ks_NAMED ?aC_InvalidLine ?aC_PoolError ?aC_InvalidText ?aC_InvalidSeats ?aC_InvalidName ?aC_Missing ?xhg_InvalidLine ?xhk_InvalidLine ?xb_InvalidLine ?xhd_InvalidLine ?xha_InvalidLine ?xhn_InvalidLine ?xht_InvalidLine ?xhm_InvalidLine ?xL_InvalidLine ?xsa_InvalidLine ?xty_InvalidLine ?xkp_InvalidLine ?hn_InvalidLine ?xiC_InvalidLine ?xtI_InvalidLine ?xlI_InvalidLine ?xcI_InvalidLine ?xkI_InvalidLine ?xm_InvalidLine_InvalidLine ?xs_InvalidLine_PoolError ?xs_InvalidLine_ValueError ?xs_InvalidLine_InvalidText ?xs_InvalidLine_InvalidSeats ?xs_InvalidLine_InvalidName ?xs_InvalidLine_Missing ?a_is_name ?l_is_name ?c_is_name ?k_is_name ?a_is_number ?l_is_number ?c_is_number ?k_is_number ?a_joined ?l_joined ?c_joined ?k_joined ?a_read_joined ?l_read_joined ?c_read_joined ?k_read_joined ?a_command_line ?l_command_line ?c_command_line ?k_command_line ?a_parse_line ?l_parse_line ?c_parse_line ?k_parse_line ?a_read_line ?l_read_line ?c_read_line ?k_read_line ?a_read_put ?l_read_put ?c_read_put ?k_read_put ?a_put_line ?l_put_line ?c_put_line ?k_put_line ?a_law_cell ?l_law_cell ?c_law_cell ?k_law_cell ?a_law_draws ?l_law_draws ?c_law_draws ?k_law_draws ?a_law_sign ?l_law_sign ?c_law_sign ?k_law_sign ?a_law_text ?l_law_text ?c_law_text ?k_law_text ?a_law_names ?l_law_names ?c_law_names ?k_law_names ?a_law_is_integer ?l_law_is_integer ?c_law_is_integer ?k_law_is_integer ?a_law_command ?l_law_command ?c_law_command ?k_law_command ?a_law_line ?l_law_line ?c_law_line ?k_law_line ?a_law_integer ?l_law_integer ?c_law_integer ?k_law_integer ?a_law_is_name ?l_law_is_name ?c_law_is_name ?k_law_is_name ?a_law_put_reading ?l_law_put_reading ?c_law_put_reading ?k_law_put_reading ?a_law_reading ?l_law_reading ?c_law_reading ?k_law_reading ?a_law_odd_part ?l_law_odd_part ?c_law_odd_part ?k_law_odd_part ?a_law_odd_line ?l_law_odd_line ?c_law_odd_line ?k_law_odd_line ?a_law_odd_seats ?l_law_odd_seats ?c_law_odd_seats ?k_law_odd_seats ?a_law_replaced ?l_law_replaced ?c_law_replaced ?k_law_replaced ?a_law_other_line ?l_law_other_line ?c_law_other_line ?k_law_other_line ?a_law_alike ?l_law_alike ?c_law_alike ?k_law_alike ?a_law_parsed ?l_law_parsed ?c_law_parsed ?k_law_parsed ?a_law_there_and_back ?l_law_there_and_back ?c_law_there_and_back ?k_law_there_and_back ?a_law_judged ?l_law_judged ?c_law_judged ?k_law_judged ?a_law ?l_law ?c_law ?k_law
    (case z_ValueError => k_is)
    (case z_abs => k_is)
    (case z_all => k_is)
    (case z_bool => k_is)
    (case z_int => k_is)
    (case z_isinstance => k_is)
    (case z_len => k_is)
    (case z_min => k_is)
    (case z_range => k_is)
    (case z_str => k_is)
    (case z_tuple => k_is)
    (case kq_NUMBERED => k_is)
    (case kl_NUMBERED => k_is)
    (case ks_NUMBERED => rfl)
    (case hh0_NUMBERED => rfl)
    (case hh1_NUMBERED => rfl)
    (case hh2_NUMBERED => rfl)
    (case hh3_NUMBERED => rfl)
    (case hh4_NUMBERED => rfl)
    (case kq_ALONE => k_is)
    (case ks_ALONE => k_is)
    (case kq_NAMED => k_is)
    (case ks_NAMED => k_is)
    (case aC_InvalidLine => k_is)
    (case aC_PoolError => k_is)
    (case aC_InvalidText => k_is)
    (case aC_InvalidSeats => k_is)
    (case aC_InvalidName => k_is)
    (case aC_Missing => k_is)
    (case xhg_InvalidLine => k_is)
    (case xhk_InvalidLine => k_is)
    (case xb_InvalidLine => k_is)
    (case xhd_InvalidLine => k_is)
    (case xha_InvalidLine => k_is)
    (case xhn_InvalidLine => k_is)
    (case xht_InvalidLine => k_is)
    (case xhm_InvalidLine => k_is)
    (case xL_InvalidLine => k_is)
    (case xsa_InvalidLine => k_is)
    (case xty_InvalidLine => k_is)
    (case xkp_InvalidLine => k_is)
    (case hn_InvalidLine => k_is)
    (case xiC_InvalidLine => k_is)
    (case xtI_InvalidLine => k_is)
    (case xlI_InvalidLine => k_is)
    (case xcI_InvalidLine => k_is)
    (case xkI_InvalidLine => k_is)
    (case xm_InvalidLine_InvalidLine => kts_exm)
    (case xs_InvalidLine_PoolError => kit_is)
    (case xs_InvalidLine_ValueError => kit_is)
    (case xs_InvalidLine_InvalidText => kit_is)
    (case xs_InvalidLine_InvalidSeats => kit_is)
    (case xs_InvalidLine_InvalidName => kit_is)
    (case xs_InvalidLine_Missing => kit_is)
    (case a_is_name => k_is)
    (case l_is_name => k_is)
    (case c_is_name => k_is)
    (case k_is_name => k_is)
    (case a_is_number => k_is)
    (case l_is_number => k_is)
    (case c_is_number => k_is)
    (case k_is_number => k_is)
    (case a_joined => k_is)
    (case l_joined => k_is)
    (case c_joined => k_is)
    (case k_joined => k_is)
    (case a_read_joined => k_is)
    (case l_read_joined => k_is)
    (case c_read_joined => k_is)
    (case k_read_joined => k_is)
    (case a_command_line => k_is)
    (case l_command_line => k_is)
    (case c_command_line => k_is)
    (case k_command_line => k_is)
    (case a_parse_line => k_is)
    (case l_parse_line => k_is)
    (case c_parse_line => k_is)
    (case k_parse_line => k_is)
    (case a_read_line => k_is)
    (case l_read_line => k_is)
    (case c_read_line => k_is)
    (case k_read_line => k_is)
    (case a_read_put => k_is)
    (case l_read_put => k_is)
    (case c_read_put => k_is)
    (case k_read_put => k_is)
    (case a_put_line => k_is)
    (case l_put_line => k_is)
    (case c_put_line => k_is)
    (case k_put_line => k_is)
    (case a_law_cell => k_is)
    (case l_law_cell => k_is)
    (case c_law_cell => k_is)
    (case k_law_cell => k_is)
    (case a_law_draws => k_is)
    (case l_law_draws => k_is)
    (case c_law_draws => k_is)
    (case k_law_draws => k_is)
    (case a_law_sign => k_is)
    (case l_law_sign => k_is)
    (case c_law_sign => k_is)
    (case k_law_sign => k_is)
    (case a_law_text => k_is)
    (case l_law_text => k_is)
    (case c_law_text => k_is)
    (case k_law_text => k_is)
    (case a_law_names => k_is)
    (case l_law_names => k_is)
    (case c_law_names => k_is)
    (case k_law_names => k_is)
    (case a_law_is_integer => k_is)
    (case l_law_is_integer => k_is)
    (case c_law_is_integer => k_is)
    (case k_law_is_integer => k_is)
    (case a_law_command => k_is)
    (case l_law_command => k_is)
    (case c_law_command => k_is)
    (case k_law_command => k_is)
    (case a_law_line => k_is)
    (case l_law_line => k_is)
    (case c_law_line => k_is)
    (case k_law_line => k_is)
    (case a_law_integer => k_is)
    (case l_law_integer => k_is)
    (case c_law_integer => k_is)
    (case k_law_integer => k_is)
    (case a_law_is_name => k_is)
    (case l_law_is_name => k_is)
    (case c_law_is_name => k_is)
    (case k_law_is_name => k_is)
    (case a_law_put_reading => k_is)
    (case l_law_put_reading => k_is)
    (case c_law_put_reading => k_is)
    (case k_law_put_reading => k_is)
    (case a_law_reading => k_is)
    (case l_law_reading => k_is)
    (case c_law_reading => k_is)
    (case k_law_reading => k_is)
    (case a_law_odd_part => k_is)
    (case l_law_odd_part => k_is)
    (case c_law_odd_part => k_is)
    (case k_law_odd_part => k_is)
    (case a_law_odd_line => k_is)
    (case l_law_odd_line => k_is)
    (case c_law_odd_line => k_is)
    (case k_law_odd_line => k_is)
    (case a_law_odd_seats => k_is)
    (case l_law_odd_seats => k_is)
    (case c_law_odd_seats => k_is)
    (case k_law_odd_seats => k_is)
    (case a_law_replaced => k_is)
    (case l_law_replaced => k_is)
    (case c_law_replaced => k_is)
    (case k_law_replaced => k_is)
    (case a_law_other_line => k_is)
    (case l_law_other_line => k_is)
    (case c_law_other_line => k_is)
    (case k_law_other_line => k_is)
    (case a_law_alike => k_is)
    (case l_law_alike => k_is)
    (case c_law_alike => k_is)
    (case k_law_alike => k_is)
    (case a_law_parsed => k_is)
    (case l_law_parsed => k_is)
    (case c_law_parsed => k_is)
    (case k_law_parsed => k_is)
    (case a_law_there_and_back => k_is)
    (case l_law_there_and_back => k_is)
    (case c_law_there_and_back => k_is)
    (case k_law_there_and_back => k_is)
    (case a_law_judged => k_is)
    (case l_law_judged => k_is)
    (case c_law_judged => k_is)
    (case k_law_judged => k_is)
    (case a_law => k_is)
    (case l_law => k_is)
    (case c_law => k_is)
    (case k_law => k_is)
end

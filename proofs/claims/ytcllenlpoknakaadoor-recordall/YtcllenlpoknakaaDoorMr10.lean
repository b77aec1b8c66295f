/- Merged: PlNum, PlFn, Box. -/
import Derived.Test.YtcllenlpoknakaaDoorMr06
import Derived.Test.YtcllenlpoknakaaDoorMr08
import Derived.Test.YtcllenlpoknakaaDoorMr07
import Derived.Test.YtcllenlpoknakaaDoorMr09
import Derived.Deep.RegionHeld3
import Derived.BigQuiet
import Derived.Deep.QuietTactic
import Derived.Deep.DeepCutAuto
import Derived.Laws.EntriesVeiled
import Derived.Test.YtcllenlpoknakaaDoorMr04
set_option linter.unusedVariables false
namespace Go.Proofs.YtcllenlpoknakaaDoor
open Go Go.RowKit

/-- A policy and a level in numbers. -/
structure Pol where
  k : Int
  g : Nat
  s : Nat
  l : Nat
  p : Nat
structure Lev where
  t : Nat
  i : Nat
  c : Nat
deriving DecidableEq

def Lev0 : Lev := ⟨0, 0, 0⟩
/-- A Flow, a Grid. -/
def Pol.F (P : Pol) : Prop := P.k = 1 ∧ 1 ≤ P.g ∧ P.l = 0 ∧ P.p = 0
def Pol.G (P : Pol) : Prop := P.k = 2 ∧ 1 ≤ P.p ∧ P.g = 0 ∧ P.s = 0
instance (P : Pol) : Decidable P.F := inferInstanceAs (Decidable (_ ∧ _))
instance (P : Pol) : Decidable P.G := inferInstanceAs (Decidable (_ ∧ _))
theorem f_not_g {P : Pol} (h : P.F) : ¬ P.G := fun k => by have := h.1; have := k.1; omega

def pForm (P : Pol) (v : Lev) : Lev := if P.F then ⟨v.t, 0, 0⟩ else if P.G then ⟨0, v.i, v.c⟩ else Lev0
def pNew (P : Pol) (v : Lev) (now n : Nat) : Lev :=
  if P.F then ⟨gTat P.g P.s v.t now n, 0, 0⟩ else if P.G then ⟨0, wIx P.l P.p v.i v.c now n, wCt P.l P.p v.i v.c now n⟩ else Lev0
def pOk (P : Pol) (v : Lev) (now n : Nat) : Bool :=
  if P.F then decide (GFits P.g P.s v.t now n) else if P.G then decide (WFits P.l P.p v.i v.c now n) else false
def pRule (P : Pol) (v : Lev) (now n : Nat) : Nat :=
  if P.F then gRetry P.g P.s v.t now n else if P.G then wRetry P.l P.p v.i v.c now n else 18446744073709551615
def pRetry (P : Pol) (v : Lev) (now n : Nat) : Nat := if pOk P v now n = true then 0 else pRule P v now n
def pLeft (P : Pol) (v : Lev) (now : Nat) : Nat :=
  if P.F then gBurst P.g P.s v.t now else if P.G then wLeft P.l P.p v.i v.c now else 0
def gCov (c v : Lev) : Bool := decide (v.i < c.i) || decide (v.i = c.i) && decide (v.c ≤ c.c)
def pCov (P : Pol) (c v : Lev) : Bool :=
  if P.F then decide (v.t ≤ c.t) else if P.G then gCov c v else false
def pMax (P : Pol) (a b : Lev) : Lev := if pCov P a b = true then pForm P a else pForm P b
def pValid (P : Pol) : Bool := decide (P.F ∨ P.G)
def pFits (P : Pol) (v : Lev) : Bool := decide ((P.F ∨ P.G) ∧ v = pForm P v)
end Go.Proofs.YtcllenlpoknakaaDoor

set_option linter.unusedVariables false
namespace Go.Proofs.YtcllenlpoknakaaDoor
open Go Go.RowKit

/-- A policy, a level as values. -/
abbrev Pv (k : Int) (g s l p : Nat) : Value := .agg #[.int .i64 k, V g, V s, V l, V p]
abbrev Lv (t i c : Nat) : Value := .agg #[V t, V i, V c]
abbrev Z : Value := .int .u64 0

/-- Two levels held against each other. -/
theorem level_eq (a b c x y z : Nat) (w : World) : (binOp .eql 30 (.agg #[V a, V b, V c]) (.agg #[V x, V y, V z])).run Tryd.prog w = .ok (.bool (decide (a = x ∧ b = y ∧ c = z))) w := by
  by_cases h1 : a = x <;> by_cases h2 : b = y <;> by_cases h3 : c = z <;> simp [go_sem, h1, h2, h3] <;> omega
theorem level_neq (a b c x y z : Nat) (w : World) : (binOp .neq 30 (.agg #[V a, V b, V c]) (.agg #[V x, V y, V z])).run Tryd.prog w = .ok (.bool (decide (¬ (a = x ∧ b = y ∧ c = z)))) w := by
  by_cases h1 : a = x <;> by_cases h2 : b = y <;> by_cases h3 : c = z <;> simp [go_sem, h1, h2, h3] <;> omega

theorem flowForm_any (t i c : Nat) (w : World) : Calls Tryd.prog 55 #[Lv t i c] w fun e w' => e = .returned (.agg #[V t, Z, Z]) ∧ Up w w' := by
  go_enter Tryd.func55, Tryd.ntmps55
  go_wp2
  exact bodyPost_ret (v := .agg #[V t, Z, Z]) (by simp [results, Tryd.results55, go_sem]) rfl ⟨rfl, up2 _ _ _⟩
theorem gridForm_any (t i c : Nat) (w : World) : Calls Tryd.prog 61 #[Lv t i c] w fun e w' => e = .returned (.agg #[Z, V i, V c]) ∧ Up w w' := by
  go_enter Tryd.func61, Tryd.ntmps61
  go_wp2
  exact bodyPost_ret (v := .agg #[Z, V i, V c]) (by simp [results, Tryd.results61, go_sem]) rfl ⟨rfl, up2 _ _ _⟩
theorem flowCovers_any (t i c t' i' c' : Nat) (w : World) : Calls Tryd.prog 59 #[Lv t i c, Lv t' i' c'] w fun e w' => e = .returned (.bool (decide (t' ≤ t))) ∧ Up w w' := by
  go_enter Tryd.func59, Tryd.ntmps59
  go_wp2
  go_ret
  exact ⟨rfl, up2 _ _ _⟩

/-- Both rules as values: structs of functions. -/
abbrev fnV (k : Nat) : Value := .func (.func k) #[] #[]
abbrev RuleF : Value := .agg #[fnV 54, fnV 55, fnV 56, fnV 57, fnV 58, fnV 59]
abbrev RuleG : Value := .agg #[fnV 60, fnV 61, fnV 62, fnV 63, fnV 64, fnV 65]
abbrev Rule0 : Value := .agg #[.nilFunc, .nilFunc, .nilFunc, .nilFunc, .nilFunc, .nilFunc]
abbrev Rules : Value := .agg #[.nilFunc, .nilFunc, .nilFunc, .nilFunc, .nilFunc, .nilFunc,
  fnV 54, fnV 55, fnV 56, fnV 57, fnV 58, fnV 59,
  fnV 60, fnV 61, fnV 62, fnV 63, fnV 64, fnV 65]

theorem Tryd.infoRules : (Tryd.prog.info? 94).map (·.size) = some 18 := by kernel_rfl

theorem rules_any (w : World) : Calls Tryd.prog 52 #[] w fun e w' => e = .returned Rules ∧ Up w w' := by
  go_enter Tryd.func52, Tryd.ntmps52
  go_wp2_with (refine wpList_store_row rfl 94 (.tmp 0) (.tmp 3) rfl w.heap.size _ rfl rfl 94 _ (heap_alloc_new _ _) Tryd.infoRules rfl rfl ?_)
  refine bodyPost_ret (results_cell_row (fn := Tryd.f52) rfl _ _ w.heap.size 94 _ (0, 0) _ rfl (heap_alloc_new _ _) Tryd.underlying94 rfl Tryd.infoRules) rfl ?_
  exact ⟨rfl, Up.alloc _ _⟩

theorem flowValid_any (k : Int) (g s l p : Nat) (w : World) : Calls Tryd.prog 54 #[Pv k g s l p] w fun e w' => e = .returned (.bool (decide (1 ≤ g ∧ l = 0 ∧ p = 0))) ∧ Up w w' := by
  obtain ⟨o, ho⟩ : ∃ o, decide (1 ≤ g ∧ l = 0 ∧ p = 0) = o := ⟨_, rfl⟩
  rw [ho]
  replace ho : Hid (decide (1 ≤ g ∧ l = 0 ∧ p = 0) = o) := ho
  go_enter Tryd.func54, Tryd.ntmps54
  go_wp2
  all_goals
    go_ret
    refine ⟨?_, Up.alloc _ _⟩
    refine congrArg (fun b => Ending.returned (Value.bool b)) (?_ : _ = _)
    rw [← ho.out, Bool.eq_iff_iff]
    simp
    omega
theorem gridValid_any (k : Int) (g s l p : Nat) (w : World) : Calls Tryd.prog 60 #[Pv k g s l p] w fun e w' => e = .returned (.bool (decide (1 ≤ p ∧ g = 0 ∧ s = 0))) ∧ Up w w' := by
  obtain ⟨o, ho⟩ : ∃ o, decide (1 ≤ p ∧ g = 0 ∧ s = 0) = o := ⟨_, rfl⟩
  rw [ho]
  replace ho : Hid (decide (1 ≤ p ∧ g = 0 ∧ s = 0) = o) := ho
  go_enter Tryd.func60, Tryd.ntmps60
  go_wp2
  all_goals
    go_ret
    refine ⟨?_, Up.alloc _ _⟩
    refine congrArg (fun b => Ending.returned (Value.bool b)) (?_ : _ = _)
    rw [← ho.out, Bool.eq_iff_iff]
    simp
    omega
theorem gridCovers_any (t i c t' i' c' : Nat) (w : World) : Calls Tryd.prog 65 #[Lv t i c, Lv t' i' c'] w fun e w' => e = .returned (.bool (gCov ⟨t, i, c⟩ ⟨t', i', c'⟩)) ∧ Up w w' := by
  obtain ⟨o, ho⟩ : ∃ o, gCov ⟨t, i, c⟩ ⟨t', i', c'⟩ = o := ⟨_, rfl⟩
  rw [ho]
  replace ho : Hid (gCov ⟨t, i, c⟩ ⟨t', i', c'⟩ = o) := ho
  go_enter Tryd.func65, Tryd.ntmps65
  go_wp2
  all_goals
    go_ret
    refine ⟨?_, up2 _ _ _⟩
    refine congrArg (fun b => Ending.returned (Value.bool b)) (?_ : _ = _)
    rw [← ho.out, Bool.eq_iff_iff]
    simp [gCov]
    omega
end Go.Proofs.YtcllenlpoknakaaDoor

set_option linter.unusedVariables false
namespace Go.Proofs.YtcllenlpoknakaaDoor
open Go Go.RowKit

/-- The block k holds just these cells. -/
def Box (w : World) (k : Nat) (cs : Array Value) : Prop := ∃ t, w.heap[k]? = some (.cells cs t (0, 0))

theorem Box.lt {w : World} {k : Nat} {cs : Array Value} (h : Box w k cs) : k < w.heap.size := by
  obtain ⟨t, h⟩ := h
  exact (Array.getElem?_eq_some_iff.1 h).1
theorem Box.cell {w : World} {k : Nat} {cs : Array Value} (h : Box w k cs) (i : Nat) : w.cell? ⟨k, i, none⟩ = cs[i]? := by
  obtain ⟨t, h⟩ := h
  exact cell_of_row _ _ _ _ _ _ h
theorem Box.frozen {w : World} {k : Nat} {cs : Array Value} (h : Box w k cs) (i : Nat) : w.frozen? ⟨k, i, none⟩ = false := by
  obtain ⟨t, h⟩ := h
  simp [World.frozen?, h]
theorem Box.up {w w' : World} {k : Nat} {cs : Array Value} (h : Box w k cs) (u : Up w w') : Box w' k cs := by
  have hl := h.lt
  obtain ⟨t, h⟩ := h
  exact ⟨t, by rw [u.block k hl]; exact h⟩
theorem Box.new (w : World) (cs : Array Value) (t : TypeId) : Box (w.alloc (.cells cs t)) w.heap.size cs := ⟨t, heap_alloc_new _ _⟩
theorem Box.newAt {w : World} {cs : Array Value} {t : TypeId} {k : Nat} (e : w.heap.size = k) : Box (w.alloc (.cells cs t)) k cs := by subst e; exact Box.new _ _ _
theorem Box.alloc {w : World} {k : Nat} {cs : Array Value} (h : Box w k cs) (o : Obj) : Box (w.alloc o) k cs := h.up (Up.alloc _ _)
theorem Box.drew {w : World} {k : Nat} {cs : Array Value} (h : Box w k cs) : Box w.drew k cs := h
theorem Box.set {w : World} {k : Nat} {cs : Array Value} (h : Box w k cs) (i : Nat) (v : Value) : Box (w.setCell ⟨k, i, none⟩ v) k (cs.setIfInBounds i v) := by
  obtain ⟨t, h⟩ := h
  exact ⟨t, heap_setCell_same _ _ _ _ _ _ h⟩
theorem Box.other {w : World} {k g : Nat} {cs : Array Value} (h : Box w k cs) (hne : k ≠ g) (i : Nat) (v : Value) : Box (w.setCell ⟨g, i, none⟩ v) k cs := by
  obtain ⟨t, h⟩ := h
  refine ⟨t, ?_⟩
  rw [heap_setCell_other _ ⟨g, i, none⟩ _ _ hne]
  exact h
theorem Box.setRow {w : World} {k : Nat} {cs : Array Value} (h : Box w k cs) (ds : Array Value) : Box (w.setRow k ds) k ds := by
  obtain ⟨t, h⟩ := h
  exact ⟨t, setRow_heap _ _ _ _ _ _ h⟩
theorem Box.otherRow {w : World} {k g : Nat} {cs : Array Value} (h : Box w k cs) (hne : k ≠ g) (ds : Array Value) : Box (w.setRow g ds) k cs := by
  obtain ⟨t, h⟩ := h
  exact ⟨t, by rw [setRow_other _ _ _ _ hne]; exact h⟩
theorem Up.setRow {w w' : World} {k : Nat} (h : Up w w') (hk : w.heap.size ≤ k) (ds : Array Value) : Up w (w'.setRow k ds) :=
  Below.trans h (⟨rfl, rfl, rfl, by simp, fun g hg => setRow_other _ _ _ _ (by omega)⟩ : Below w.heap.size w' (w'.setRow k ds))
theorem up_drewN (w : World) (n : Nat) : Up w (w.drewN n) := ⟨rfl, rfl, rfl, Nat.le_refl _, fun _ _ => rfl⟩
/-- A box that was made ahead of a draw. -/
theorem box_al {w w' : World} {cs : Array Value} {t : TypeId} (u : Up (w.alloc (.cells cs t)).drew w') : Box w' w.heap.size cs := Box.up (Box.new w cs t).drew u
theorem up_al {w w' : World} {o : Obj} (h : Up w w') : Up w (w'.alloc o).drew := (h.trans (Up.alloc _ _)).trans (Up.drew _)

/-- Boxes of two, three, six cells for the walk. -/
theorem Box.c2 {w : World} {k : Nat} {a b : Value} (h : Box w k #[a, b]) : w.cell? ⟨k, 0, none⟩ = some a ∧ w.cell? ⟨k, 1, none⟩ = some b := ⟨h.cell 0, h.cell 1⟩
theorem Box.c3 {w : World} {k : Nat} {a b c : Value} (h : Box w k #[a, b, c]) : w.cell? ⟨k, 0, none⟩ = some a ∧ w.cell? ⟨k, 1, none⟩ = some b ∧ w.cell? ⟨k, 2, none⟩ = some c := ⟨h.cell 0, h.cell 1, h.cell 2⟩
theorem Box.c5 {w : World} {k : Nat} {a b c d e : Value} (h : Box w k #[a, b, c, d, e]) : w.cell? ⟨k, 0, none⟩ = some a ∧ w.cell? ⟨k, 1, none⟩ = some b ∧ w.cell? ⟨k, 2, none⟩ = some c ∧ w.cell? ⟨k, 3, none⟩ = some d ∧ w.cell? ⟨k, 4, none⟩ = some e :=
  ⟨h.cell 0, h.cell 1, h.cell 2, h.cell 3, h.cell 4⟩
theorem Box.c6 {w : World} {k : Nat} {a b c d e f : Value} (h : Box w k #[a, b, c, d, e, f]) : w.cell? ⟨k, 0, none⟩ = some a ∧ w.cell? ⟨k, 1, none⟩ = some b ∧ w.cell? ⟨k, 2, none⟩ = some c ∧ w.cell? ⟨k, 3, none⟩ = some d ∧ w.cell? ⟨k, 4, none⟩ = some e ∧ w.cell? ⟨k, 5, none⟩ = some f :=
  ⟨h.cell 0, h.cell 1, h.cell 2, h.cell 3, h.cell 4, h.cell 5⟩
theorem Box.c13 {w : World} {k : Nat} {a0 a1 a2 a3 a4 a5 a6 a7 a8 a9 a10 a11 a12 : Value} (h : Box w k #[a0, a1, a2, a3, a4, a5, a6, a7, a8, a9, a10, a11, a12]) : w.cell? ⟨k, 0, none⟩ = some a0 ∧ w.cell? ⟨k, 1, none⟩ = some a1 ∧ w.cell? ⟨k, 2, none⟩ = some a2 ∧ w.cell? ⟨k, 3, none⟩ = some a3 ∧ w.cell? ⟨k, 4, none⟩ = some a4 ∧ w.cell? ⟨k, 5, none⟩ = some a5 ∧ w.cell? ⟨k, 6, none⟩ = some a6 ∧ w.cell? ⟨k, 7, none⟩ = some a7 ∧ w.cell? ⟨k, 8, none⟩ = some a8 ∧ w.cell? ⟨k, 9, none⟩ = some a9 ∧ w.cell? ⟨k, 10, none⟩ = some a10 ∧ w.cell? ⟨k, 11, none⟩ = some a11 ∧ w.cell? ⟨k, 12, none⟩ = some a12 :=
  ⟨h.cell 0, h.cell 1, h.cell 2, h.cell 3, h.cell 4, h.cell 5, h.cell 6, h.cell 7, h.cell 8, h.cell 9, h.cell 10, h.cell 11, h.cell 12⟩
theorem Box.c13e {w : World} {k : Nat} {a0 a1 a2 a3 a4 a5 a6 a7 a8 a9 a10 a11 a12 : Value} (h : Box w k #[a0, a1, a2, a3, a4, a5, a6, a7, a8, a9, a10, a11, a12]) : w.cell? ⟨k, 11, none⟩ = some a11 ∧ w.cell? ⟨k, 12, none⟩ = some a12 := ⟨h.cell 11, h.cell 12⟩
/-- Three cells written. -/
theorem Box.set3 {w : World} {k : Nat} {a b c x y z : Value} (h : Box w k #[a, b, c]) : Box (((w.setCell ⟨k, 0, none⟩ x).setCell ⟨k, 1, none⟩ y).setCell ⟨k, 2, none⟩ z) k #[x, y, z] := ((h.set 0 x).set 1 y).set 2 z
theorem Box.set6 {w : World} {k : Nat} {a b c d e f x y z x' y' z' : Value} (h : Box w k #[a, b, c, d, e, f]) :
    Box ((((((w.setCell ⟨k, 0, none⟩ x).setCell ⟨k, 1, none⟩ y).setCell ⟨k, 2, none⟩ z).setCell ⟨k, 3, none⟩ x').setCell ⟨k, 4, none⟩ y').setCell ⟨k, 5, none⟩ z') k #[x, y, z, x', y', z'] := (((((h.set 0 x).set 1 y).set 2 z).set 3 x').set 4 y').set 5 z'
/-- Blocks that are new since w. -/
theorem Up.set3 {w w' : World} {k : Nat} (h : Up w w') (hk : w.heap.size ≤ k) (x y z : Value) : Up w (((w'.setCell ⟨k, 0, none⟩ x).setCell ⟨k, 1, none⟩ y).setCell ⟨k, 2, none⟩ z) := ((h.setCell hk x).setCell hk y).setCell hk z
theorem Up.set6 {w w' : World} {k : Nat} (h : Up w w') (hk : w.heap.size ≤ k) (x y z x' y' z' : Value) :
    Up w ((((((w'.setCell ⟨k, 0, none⟩ x).setCell ⟨k, 1, none⟩ y).setCell ⟨k, 2, none⟩ z).setCell ⟨k, 3, none⟩ x').setCell ⟨k, 4, none⟩ y').setCell ⟨k, 5, none⟩ z') := (((((h.setCell hk x).setCell hk y).setCell hk z).setCell hk x').setCell hk y').setCell hk z'
end Go.Proofs.YtcllenlpoknakaaDoor

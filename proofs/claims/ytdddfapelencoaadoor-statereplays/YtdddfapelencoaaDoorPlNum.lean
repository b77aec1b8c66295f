/- policy: the face over both rules in numbers alone, without the program. -/
import Derived.Test.YtdddfapelencoaaDoorGcNum
import Derived.Test.YtdddfapelencoaaDoorWnNum
set_option linter.unusedVariables false
namespace Go.Proofs.YtdddfapelencoaaDoor
open Go Go.RowKit

/-- A policy and a level in numbers. -/
structure Pol where
  k : Int
  g : Nat
  s : Nat
  l : Nat
  p : Nat
structure Lev where
  t : Nat
  i : Nat
  c : Nat
deriving DecidableEq

def Lev0 : Lev := ⟨0, 0, 0⟩
/-- A Flow, a Grid. -/
def Pol.F (P : Pol) : Prop := P.k = 1 ∧ 1 ≤ P.g ∧ P.l = 0 ∧ P.p = 0
def Pol.G (P : Pol) : Prop := P.k = 2 ∧ 1 ≤ P.p ∧ P.g = 0 ∧ P.s = 0
instance (P : Pol) : Decidable P.F := inferInstanceAs (Decidable (_ ∧ _))
instance (P : Pol) : Decidable P.G := inferInstanceAs (Decidable (_ ∧ _))
theorem f_not_g {P : Pol} (h : P.F) : ¬ P.G := fun k => by have := h.1; have := k.1; omega

def pForm (P : Pol) (v : Lev) : Lev := if P.F then ⟨v.t, 0, 0⟩ else if P.G then ⟨0, v.i, v.c⟩ else Lev0
def pNew (P : Pol) (v : Lev) (now n : Nat) : Lev :=
  if P.F then ⟨gTat P.g P.s v.t now n, 0, 0⟩ else if P.G then ⟨0, wIx P.l P.p v.i v.c now n, wCt P.l P.p v.i v.c now n⟩ else Lev0
def pOk (P : Pol) (v : Lev) (now n : Nat) : Bool :=
  if P.F then decide (GFits P.g P.s v.t now n) else if P.G then decide (WFits P.l P.p v.i v.c now n) else false
def pRule (P : Pol) (v : Lev) (now n : Nat) : Nat :=
  if P.F then gRetry P.g P.s v.t now n else if P.G then wRetry P.l P.p v.i v.c now n else 18446744073709551615
def pRetry (P : Pol) (v : Lev) (now n : Nat) : Nat := if pOk P v now n = true then 0 else pRule P v now n
def pLeft (P : Pol) (v : Lev) (now : Nat) : Nat :=
  if P.F then gBurst P.g P.s v.t now else if P.G then wLeft P.l P.p v.i v.c now else 0
def gCov (c v : Lev) : Bool := decide (v.i < c.i) || decide (v.i = c.i) && decide (v.c ≤ c.c)
def pCov (P : Pol) (c v : Lev) : Bool :=
  if P.F then decide (v.t ≤ c.t) else if P.G then gCov c v else false
def pMax (P : Pol) (a b : Lev) : Lev := if pCov P a b = true then pForm P a else pForm P b
def pValid (P : Pol) : Bool := decide (P.F ∨ P.G)
def pFits (P : Pol) (v : Lev) : Bool := decide ((P.F ∨ P.G) ∧ v = pForm P v)
end Go.Proofs.YtdddfapelencoaaDoor

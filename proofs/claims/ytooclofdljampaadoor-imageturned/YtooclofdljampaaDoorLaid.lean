/- From what a row lists of the errors to where they lie in memory. -/
import Derived.Test.YtooclofdljampaaDoorLives
import Derived.Test.YtooclofdljampaaDoorRows
import Derived.LaidLaws
import Derived.LaidSub
import Derived.Stop.LaidErr
import Derived.MakeChecks
import Derived.ProofKit
set_option linter.unusedVariables false
namespace Go.Proofs.YtooclofdljampaaDoor
open Go Go.RowKit Go.ChangeShapes Go.WideShapes

theorem Tryd.nameErr : Tryd.prog.typeName? 3 137 = some "*errors.errorString" := by kernel_rfl
theorem Tryd.cellsErr : Tryd.prog.cellsOf 152 = 1 := by kernel_rfl
theorem Tryd.cellsStr : Tryd.prog.cellsOf 9 = 1 := by kernel_rfl
theorem Tryd.star : "*" ++ "errors.errorString" = "*errors.errorString" := by decide
theorem Tryd.rowErr (u : TypeId) (h : Tryd.prog.typeName? 3 u = some "*errors.errorString") : u = 137 :=
  typeName_ptr_named (nm := "errors.errorString") (by rw [Tryd.star]; kernel_rfl) (by kernel_rfl) (by decide) u (by rw [Tryd.star]; exact h)

/-- The error at a reads as this text, in a block of cells. -/
structure ErrAt (w : World) (a : Addr) (text : List UInt8) : Prop where
  cell : ∃ s : ByteArray, w.cell? a = some (.string s) ∧ s.data.toList = text
  block : ∃ c t, w.heap[a.block]? = some (.cells c t (0, 0))

set_option maxRecDepth 20000 in
theorem gl_of_laid {n : String} {g : Nat} {text : List UInt8} {l : List (String × DataW Unit)} {W : World} (h : laidMetH Tryd.prog l W)
    (hl : (l.filter fun x => x.1 == n) = [(n, .iface "*errors.errorString" (.ptr (.agg [.lit (.string text)])))]) (hp : (l.all fun x => x.2.handleName?.isNone) = true)
    (hg : Tryd.prog.globalNamed n = some g) (ht : (Tryd.prog.globals[g]?).map (·.type) = some 35) : ∃ a, Gl W g a ∧ ErrAt W a text := by
  have h1 := h.filter (fun x => x.1 == n)
  rw [hl, MakeChecks.laidMetH_plain _ _ _ (by rfl)] at h1
  obtain ⟨ps, ⟨g0, t0, cs0, f0, p0, q0, hg0, ht0, hv0, hd0, hq0, e0⟩, hnd, hrows⟩ := h1
  obtain rfl := Option.some.inj (hg.symm.trans hg0)
  obtain rfl := Option.some.inj (ht.symm.trans ht0)
  have hq0' : q0 = [] := hq0
  subst hq0' e0
  obtain ⟨l0⟩ := cs0
  have ok0 : ∀ u v, l0 = [.iface u v] → Value.okWide Tryd.prog W .any 0 u v := fun u v e => by
    subst e
    exact (hrows g 0 (by simp [MemPlace.row])).2 u v (by simpa using World.var?_cell hg0 hv0 0)
  obtain ⟨a0, s0, rfl, hc0, hs0, hz0, rfl⟩ := errorString_of_trod Tryd.underlying35 Tryd.rowErr Tryd.underlying137 Tryd.underlying152 rfl rfl Tryd.underlying9 Tryd.cellsErr Tryd.cellsStr hd0 ok0
  obtain ⟨c0, t0, hb0⟩ := (hrows a0.block a0.off (by simp [MemPlace.row])).1
  obtain ⟨c1, t1, hb1⟩ := (hrows g 0 (by simp [MemPlace.row])).1
  refine ⟨a0, ⟨t1, ?_⟩, ⟨⟨s0, hc0, hs0⟩, c0, t0, hb0⟩⟩
  simp only [World.var?, hg, Option.bind_some, hb1] at hv0
  rw [hb1]
  simpa using hv0

theorem own : ownKnob Tryd.prog.godebug = none := by kernel_rfl
theorem Tryd.gShort : Tryd.prog.globalNamed "turnstile/api.ErrShort" = some 1 := by kernel_rfl
theorem Tryd.gForm : Tryd.prog.globalNamed "turnstile/api.ErrForm" = some 2 := by kernel_rfl
theorem Tryd.gNil : Tryd.prog.globalNamed "turnstile/api.ErrNil" = some 14 := by kernel_rfl
theorem Tryd.gtShort : (Tryd.prog.globals[1]?).map (·.type) = some 35 := by kernel_rfl
theorem Tryd.gtForm : (Tryd.prog.globals[2]?).map (·.type) = some 35 := by kernel_rfl
theorem Tryd.gtNil : (Tryd.prog.globals[14]?).map (·.type) = some 35 := by kernel_rfl
end Go.Proofs.YtooclofdljampaaDoor

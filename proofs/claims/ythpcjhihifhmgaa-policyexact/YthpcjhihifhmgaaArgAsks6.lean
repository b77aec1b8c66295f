/- A slice of Asks among the arguments: the list of their numbers. -/
import Derived.Test.YthpcjhihifhmgaaPlExact
import Derived.Test.YthpcjhihifhmgaaArgAsk6
import Derived.Deep.Slices
set_option linter.unusedVariables false
namespace Go.Proofs.Ythpcjhihifhmgaa
open Go Go.RowKit Go.ChangeShapes Go.WideShapes Go.Joins

theorem Try.readableAsks6 : Try.prog.readableRec 22 = true := by kernel_rfl
theorem Try.laidOutA6 : laidOutB Try.prog = true := by kernel_rfl

theorem addr_plainA6 {w : World} {a : Addr} {v : Value} (h : w.cell? a = some v) : a = ⟨a.block, a.off, none⟩ := by
  obtain ⟨b, o, s⟩ := a
  unfold World.cell? at h
  cases s with
  | none => rfl
  | some s =>
    split at h
    · simp at h
    · cases h

/-- Thirteen numbers, read out of their cells. -/
theorem open_q13 {H : Type} {enc : TypeId × Value → H} {W : World} {b o n : Nat} {cs : List Value} {x : DataW H × List MemPlace} (hc : W.cells? 0 ⟨b, o, none⟩ 13 = some cs)
    (h : DataW.trod enc Try.prog W 0 (fun _ => true) true n 31 cs = some x) : ∃ q : AskN, AskAt W b o q ∧ q.Ok := by
  obtain ⟨k0, k1, k2, k3, k4, k5, k6, k7, k8, k9, k10, k11, k12, rfl, l1, l2, l3, l4, l5, l6, l7, l8, l9, l10, l11, l12, _, _⟩ := open_ask6_cells h
  have hcells : W.cell? ⟨b, o, none⟩ = some (.int .i64 k0) ∧ W.cell? ⟨b, o + 1, none⟩ = some (V k1) ∧ W.cell? ⟨b, o + 2, none⟩ = some (V k2) ∧ W.cell? ⟨b, o + 3, none⟩ = some (V k3) ∧ W.cell? ⟨b, o + 4, none⟩ = some (V k4) ∧ W.cell? ⟨b, o + 5, none⟩ = some (V k5) ∧ W.cell? ⟨b, o + 6, none⟩ = some (V k6) ∧ W.cell? ⟨b, o + 7, none⟩ = some (V k7) ∧ W.cell? ⟨b, o + 8, none⟩ = some (V k8) ∧ W.cell? ⟨b, o + 9, none⟩ = some (V k9) ∧ W.cell? ⟨b, o + 10, none⟩ = some (V k10) ∧ W.cell? ⟨b, o + 11, none⟩ = some (V k11) ∧ W.cell? ⟨b, o + 12, none⟩ = some (V k12) := by
    unfold World.cells? at hc
    rw [if_pos (Nat.zero_le _)] at hc
    have hr : List.range 13 = [0, 1, 2, 3, 4, 5, 6, 7, 8, 9, 10, 11, 12] := by decide
    rw [hr] at hc
    simp only [List.mapM_cons, List.mapM_nil, Addr.add_lit, Nat.add_zero] at hc
    simp only [Option.bind_eq_bind, Option.bind_eq_some_iff, Option.pure_def, Option.some.injEq] at hc
    obtain ⟨a0, h0, r0, ⟨a1, h1, r1, ⟨a2, h2, r2, ⟨a3, h3, r3, ⟨a4, h4, r4, ⟨a5, h5, r5, ⟨a6, h6, r6, ⟨a7, h7, r7, ⟨a8, h8, r8, ⟨a9, h9, r9, ⟨a10, h10, r10, ⟨a11, h11, r11, ⟨a12, h12, r12, g1, g2⟩, g3⟩, g4⟩, g5⟩, g6⟩, g7⟩, g8⟩, g9⟩, g10⟩, g11⟩, g12⟩, g13⟩, g14⟩ := hc
    subst g1 g2 g3 g4 g5 g6 g7 g8 g9 g10 g11 g12 g13
    simp at g14
    obtain ⟨rfl, rfl, rfl, rfl, rfl, rfl, rfl, rfl, rfl, rfl, rfl, rfl, rfl⟩ := g14
    exact ⟨h0, h1, h2, h3, h4, h5, h6, h7, h8, h9, h10, h11, h12⟩
  exact ⟨⟨k0, k1, k2, k3, k4, k5, k6, k7, k8, k9, k10, k11, k12⟩, hcells, l1, l2, l3, l4, l5, l6, l7, l8, l9, l10, l11, l12⟩

theorem open_asks6 {H : Type} {enc : TypeId × Value → H} {W : World} {v : Value} {d : DataW H} {p : List MemPlace} (hv : ∃ a n c, v = .slice a n c)
    (h : DataW.Trod enc Try.prog W 0 (fun _ => true) true 22 v d p) :
    ∃ qs, AsksIn W v qs ∧ (qs.length : Int) ≤ 9223372036854775807 ∧ ∀ q ∈ qs, q.Ok := by
  obtain ⟨a0, n0, c0, rfl⟩ := hv
  obtain ⟨fuel, hf⟩ := h
  rcases Go.Deep.open_slice Try.underlying22 hf with ⟨hcs, hx⟩ | ⟨a, len, cap, m, n, D, Pl, hcs, _, hl, hm, hm2, hx, hel⟩
  · simp [Value.cells] at hcs
    obtain ⟨rfl, rfl, rfl⟩ := hcs
    exact ⟨[], ⟨none, 0, rfl, fun h => absurd rfl h⟩, by simp, fun p hp => by cases hp⟩
  · simp [Value.cells] at hcs
    obtain ⟨rfl, rfl, rfl⟩ := hcs
    simp only [if_true] at hm2
    subst hm2
    rw [Try.cellsAsk6] at hel
    have hmx : (n0 : Int) ≤ 9223372036854775807 := by unfold maxLen at hm; omega
    by_cases hn : n0 = 0
    · subst hn
      exact ⟨[], ⟨some a, m, rfl, fun h => absurd rfl h⟩, by simp, fun p hp => by cases hp⟩
    · have hplain : a = ⟨a.block, a.off, none⟩ := by
        obtain ⟨cs', h1, _⟩ := hel 0 (by omega)
        unfold World.cells? at h1
        rw [if_pos (Nat.zero_le _)] at h1
        have hr : List.range 13 = [0, 1, 2, 3, 4, 5, 6, 7, 8, 9, 10, 11, 12] := by decide
        rw [hr] at h1
        simp only [List.mapM_cons, Option.bind_eq_bind, Option.bind_eq_some_iff] at h1
        obtain ⟨x, h2, _⟩ := h1
        have e : (a.add (0 * 13)).add 0 = a := by simp [Addr.add]
        rw [e] at h2
        exact addr_plainA6 h2
      have each : ∀ i, i < n0 → ∃ q : AskN, AskAt W a.block (a.off + i * 13) q ∧ q.Ok := by
        intro i hi
        obtain ⟨cs', h1, h2⟩ := hel i (by omega)
        rw [hplain, Addr.add_lit] at h1
        exact open_q13 h1 h2
      have hch : ∃ f : Nat → AskN, ∀ i, i < n0 → AskAt W a.block (a.off + i * 13) (f i) ∧ (f i).Ok := by
        refine ⟨fun i => if h : i < n0 then Classical.choose (each i h) else ⟨0, 0, 0, 0, 0, 0, 0, 0, 0, 0, 0, 0, 0⟩, fun i hi => ?_⟩
        simp only [dif_pos hi]
        exact Classical.choose_spec (each i hi)
      obtain ⟨f, hf⟩ := hch
      have hlen : ((List.range n0).map f).length = n0 := by simp
      refine ⟨(List.range n0).map f, ⟨some a, m, by rw [hlen], fun _ => ⟨a.block, a.off, congrArg some hplain, ?_⟩⟩, by rw [hlen]; exact hmx, ?_⟩
      · intro i hi
        rw [hlen] at hi
        simpa using (hf i hi).1
      · intro p hp
        obtain ⟨i, hi, rfl⟩ := List.mem_map.1 hp
        exact (hf i (List.mem_range.1 hi)).2
end Go.Proofs.Ythpcjhihifhmgaa

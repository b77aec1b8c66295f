/- A slice of events among the arguments: the list of their pairs. -/
import Derived.Test.YtdopbnmmcjofmaaWnSums
import Derived.Test.YtdopbnmmcjofmaaArgOp
import Derived.Deep.Slices
set_option linter.unusedVariables false
namespace Go.Proofs.Ytdopbnmmcjofmaa
open Go Go.RowKit Go.ChangeShapes Go.WideShapes Go.Joins

theorem Try.readableEvs : Try.prog.readableRec 36 = true := by kernel_rfl
theorem Try.laidOutE : laidOutB Try.prog = true := by kernel_rfl
theorem Try.cellsEvent : Try.prog.cellsOf 38 = 2 := by kernel_rfl

theorem addr_plainE {w : World} {a : Addr} {v : Value} (h : w.cell? a = some v) : a = ⟨a.block, a.off, none⟩ := by
  obtain ⟨b, o, s⟩ := a
  unfold World.cell? at h
  cases s with
  | none => rfl
  | some s =>
    split at h
    · simp at h
    · cases h

/-- Two numbers, read out of their two cells. -/
theorem open_e2 {H : Type} {enc : TypeId × Value → H} {W : World} {b o n : Nat} {cs : List Value} {x : DataW H × List MemPlace} (hc : W.cells? 0 ⟨b, o, none⟩ 2 = some cs)
    (h : DataW.trod enc Try.prog W 0 (fun _ => true) true n 38 cs = some x) : ∃ q : Nat × Nat, EvAt W b o q ∧ N64 q.1 ∧ N64 q.2 := by
  obtain ⟨xs, m, _, rfl, hl, hlen, hf⟩ := DataW.trod_struct Try.underlying38 h
  rw [Try.cellsEvent] at hl
  match cs, hl with
  | [c0, c1], _ =>
    match xs, hlen with
    | [y0, y1], _ =>
      have f0 : DataW.trod enc Try.prog W 0 (fun _ => true) true m 25 (([c0, c1].drop 0).take (Try.prog.cellsOf 25)) = some y0 := hf 0 _ rfl
      have f1 : DataW.trod enc Try.prog W 0 (fun _ => true) true m 25 (([c0, c1].drop 1).take (Try.prog.cellsOf 25)) = some y1 := hf 1 _ rfl
      rw [Try.cellsU64] at f0 f1
      simp at f0 f1
      obtain ⟨k0, rfl, rfl, l0, _⟩ := lit_u64 f0
      obtain ⟨k1, rfl, rfl, l1, _⟩ := lit_u64 f1
      have hcells : W.cell? ⟨b, o, none⟩ = some (V k0) ∧ W.cell? ⟨b, o + 1, none⟩ = some (V k1) := by
        unfold World.cells? at hc
        rw [if_pos (Nat.zero_le _)] at hc
        have hr : List.range 2 = [0, 1] := by decide
        rw [hr] at hc
        simp only [List.mapM_cons, List.mapM_nil, Addr.add_lit, Nat.add_zero] at hc
        simp only [Option.bind_eq_bind, Option.bind_eq_some_iff, Option.pure_def, Option.some.injEq] at hc
        obtain ⟨a0, h0, r0, ⟨a1, h1, r1, g1, g2⟩, g3⟩ := hc
        subst g1 g2
        simp at g3
        obtain ⟨rfl, rfl⟩ := g3
        exact ⟨h0, h1⟩
      exact ⟨(k0, k1), hcells, l0, l1⟩

theorem open_evs {H : Type} {enc : TypeId × Value → H} {W : World} {v : Value} {d : DataW H} {p : List MemPlace} (hv : ∃ a n c, v = .slice a n c)
    (h : DataW.Trod enc Try.prog W 0 (fun _ => true) true 36 v d p) :
    ∃ qs, EvIn W v qs ∧ (qs.length : Int) ≤ 9223372036854775807 ∧ ∀ q ∈ qs, N64 q.1 ∧ N64 q.2 := by
  obtain ⟨a0, n0, c0, rfl⟩ := hv
  obtain ⟨fuel, hf⟩ := h
  rcases Go.Deep.open_slice Try.underlying36 hf with ⟨hcs, hx⟩ | ⟨a, len, cap, m, n, D, Pl, hcs, _, hl, hm, hm2, hx, hel⟩
  · simp [Value.cells] at hcs
    obtain ⟨rfl, rfl, rfl⟩ := hcs
    exact ⟨[], ⟨none, 0, rfl, fun h => absurd rfl h⟩, by simp, fun p hp => by cases hp⟩
  · simp [Value.cells] at hcs
    obtain ⟨rfl, rfl, rfl⟩ := hcs
    simp only [if_true] at hm2
    subst hm2
    rw [Try.cellsEvent] at hel
    have hmx : (n0 : Int) ≤ 9223372036854775807 := by unfold maxLen at hm; omega
    by_cases hn : n0 = 0
    · subst hn
      exact ⟨[], ⟨some a, m, rfl, fun h => absurd rfl h⟩, by simp, fun p hp => by cases hp⟩
    · have hplain : a = ⟨a.block, a.off, none⟩ := by
        obtain ⟨cs', h1, _⟩ := hel 0 (by omega)
        unfold World.cells? at h1
        rw [if_pos (Nat.zero_le _)] at h1
        have hr : List.range 2 = [0, 1] := by decide
        rw [hr] at h1
        simp only [List.mapM_cons, Option.bind_eq_bind, Option.bind_eq_some_iff] at h1
        obtain ⟨x, h2, _⟩ := h1
        have e : (a.add (0 * 2)).add 0 = a := by simp [Addr.add]
        rw [e] at h2
        exact addr_plainE h2
      have each : ∀ i, i < n0 → ∃ q : Nat × Nat, EvAt W a.block (a.off + i * 2) q ∧ N64 q.1 ∧ N64 q.2 := by
        intro i hi
        obtain ⟨cs', h1, h2⟩ := hel i (by omega)
        rw [hplain, Addr.add_lit] at h1
        exact open_e2 h1 h2
      have hch : ∃ f : Nat → Nat × Nat, ∀ i, i < n0 → EvAt W a.block (a.off + i * 2) (f i) ∧ N64 (f i).1 ∧ N64 (f i).2 := by
        refine ⟨fun i => if h : i < n0 then Classical.choose (each i h) else (0, 0), fun i hi => ?_⟩
        simp only [dif_pos hi]
        exact Classical.choose_spec (each i hi)
      obtain ⟨f, hf⟩ := hch
      have hlen : ((List.range n0).map f).length = n0 := by simp
      refine ⟨(List.range n0).map f, ⟨some a, m, by rw [hlen], fun _ => ⟨a.block, a.off, congrArg some hplain, ?_⟩⟩, by rw [hlen]; exact hmx, ?_⟩
      · intro i hi
        rw [hlen] at hi
        simpa using (hf i hi).1
      · intro p hp
        obtain ⟨i, hi, rfl⟩ := List.mem_map.1 hp
        exact (hf i (List.mem_range.1 hi)).2
end Go.Proofs.Ytdopbnmmcjofmaa

/- A slice of four numbers each among the arguments: the list of them. -/
import Derived.Test.YtknanpnbpmmlgaaSatExactW
import Derived.Test.YtknanpnbpmmlgaaRows
import Derived.ChangeSame
import Derived.OpenShut
import Derived.ProofKit
import Derived.Deep.Slices
import Derived.Lib.SmallJoins
set_option linter.unusedVariables false
namespace Go.Proofs.Ytknanpnbpmmlgaa
open Go Go.RowKit Go.ChangeShapes Go.WideShapes Go.Joins

theorem Try.cellsOp4 : Try.prog.cellsOf 27 = 4 := by kernel_rfl
theorem Try.cellsU64 : Try.prog.cellsOf 25 = 1 := by kernel_rfl
theorem Try.readableOp4 : Try.prog.readableRec 22 = true := by kernel_rfl

theorem Try.laidOut : laidOutB Try.prog = true := by kernel_rfl

theorem addr_plain {w : World} {a : Addr} {v : Value} (h : w.cell? a = some v) : a = ⟨a.block, a.off, none⟩ := by
  obtain ⟨b, o, s⟩ := a
  unfold World.cell? at h
  cases s with
  | none => rfl
  | some s =>
    split at h
    · simp at h
    · cases h

/-- Four numbers, read out of their four cells. -/
theorem open_q4 {H : Type} {enc : TypeId × Value → H} {W : World} {b o n : Nat} {cs : List Value} {x : DataW H × List MemPlace} (hc : W.cells? 0 ⟨b, o, none⟩ 4 = some cs)
    (h : DataW.trod enc Try.prog W 0 (fun _ => true) true n 27 cs = some x) : ∃ q : Q4, QAt W b o q ∧ q.Ok := by
  obtain ⟨xs, m, _, rfl, hl, hlen, hf⟩ := DataW.trod_struct Try.underlying27 h
  rw [Try.cellsOp4] at hl
  match cs, hl with
  | [c0, c1, c2, c3], _ =>
    match xs, hlen with
    | [y0, y1, y2, y3], _ =>
      have f0 : DataW.trod enc Try.prog W 0 (fun _ => true) true m 25 (([c0, c1, c2, c3].drop 0).take (Try.prog.cellsOf 25)) = some y0 := hf 0 _ rfl
      have f1 : DataW.trod enc Try.prog W 0 (fun _ => true) true m 25 (([c0, c1, c2, c3].drop 1).take (Try.prog.cellsOf 25)) = some y1 := hf 1 _ rfl
      have f2 : DataW.trod enc Try.prog W 0 (fun _ => true) true m 25 (([c0, c1, c2, c3].drop 2).take (Try.prog.cellsOf 25)) = some y2 := hf 2 _ rfl
      have f3 : DataW.trod enc Try.prog W 0 (fun _ => true) true m 25 (([c0, c1, c2, c3].drop 3).take (Try.prog.cellsOf 25)) = some y3 := hf 3 _ rfl
      rw [Try.cellsU64] at f0 f1 f2 f3
      simp at f0 f1 f2 f3
      obtain ⟨k0, e0, _, w0⟩ := DataW.trod_int Try.underlying25 f0
      obtain ⟨k1, e1, _, w1⟩ := DataW.trod_int Try.underlying25 f1
      obtain ⟨k2, e2, _, w2⟩ := DataW.trod_int Try.underlying25 f2
      obtain ⟨k3, e3, _, w3⟩ := DataW.trod_int Try.underlying25 f3
      simp at e0 e1 e2 e3
      subst e0 e1 e2 e3
      have hcells : W.cell? ⟨b, o, none⟩ = some (.int .u64 k0) ∧ W.cell? ⟨b, o + 1, none⟩ = some (.int .u64 k1) ∧ W.cell? ⟨b, o + 2, none⟩ = some (.int .u64 k2) ∧ W.cell? ⟨b, o + 3, none⟩ = some (.int .u64 k3) := by
        unfold World.cells? at hc
        rw [if_pos (Nat.zero_le _)] at hc
        have hr : List.range 4 = [0, 1, 2, 3] := by decide
        rw [hr] at hc
        simp only [List.mapM_cons, List.mapM_nil, Addr.add_lit, Nat.add_zero] at hc
        simp only [Option.bind_eq_bind, Option.bind_eq_some_iff, Option.pure_def, Option.some.injEq] at hc
        obtain ⟨a0, h0, r0, ⟨a1, h1, r1, ⟨a2, h2, r2, ⟨a3, h3, r3, g1, g2⟩, g3⟩, g4⟩, g5⟩ := hc
        subst g1 g2 g3 g4
        simp at g5
        obtain ⟨rfl, rfl, rfl, rfl⟩ := g5
        exact ⟨h0, h1, h2, h3⟩
      have b0 := bounds_u64 w0
      have b1 := bounds_u64 w1
      have b2 := bounds_u64 w2
      have b3 := bounds_u64 w3
      obtain ⟨n0, rfl⟩ := Int.eq_ofNat_of_zero_le b0.1
      obtain ⟨n1, rfl⟩ := Int.eq_ofNat_of_zero_le b1.1
      obtain ⟨n2, rfl⟩ := Int.eq_ofNat_of_zero_le b2.1
      obtain ⟨n3, rfl⟩ := Int.eq_ofNat_of_zero_le b3.1
      have hn : ∀ {n : Nat}, (n : Int) ≤ 18446744073709551615 → N64 n := fun h => by unfold N64; omega
      exact ⟨⟨n0, n1, n2, n3⟩, hcells, hn (by have := b0.2; omega), hn (by have := b1.2; omega), hn (by have := b2.2; omega), hn (by have := b3.2; omega)⟩

theorem open_q4s {H : Type} {enc : TypeId × Value → H} {W : World} {v : Value} {d : DataW H} {p : List MemPlace} (hv : ∃ a n c, v = .slice a n c)
    (h : DataW.Trod enc Try.prog W 0 (fun _ => true) true 22 v d p) :
    ∃ qs, QsIn W v qs ∧ (qs.length : Int) ≤ 9223372036854775807 ∧ ∀ q ∈ qs, q.Ok := by
  obtain ⟨a0, n0, c0, rfl⟩ := hv
  obtain ⟨fuel, hf⟩ := h
  rcases Go.Deep.open_slice Try.underlying22 hf with ⟨hcs, hx⟩ | ⟨a, len, cap, m, n, D, Pl, hcs, _, hl, hm, hm2, hx, hel⟩
  · simp [Value.cells] at hcs
    obtain ⟨rfl, rfl, rfl⟩ := hcs
    exact ⟨[], ⟨none, 0, rfl, fun h => absurd rfl h⟩, by simp, fun p hp => by cases hp⟩
  · simp [Value.cells] at hcs
    obtain ⟨rfl, rfl, rfl⟩ := hcs
    simp only [if_true] at hm2
    subst hm2
    rw [Try.cellsOp4] at hel
    have hmx : (n0 : Int) ≤ 9223372036854775807 := by unfold maxLen at hm; omega
    by_cases hn : n0 = 0
    · subst hn
      exact ⟨[], ⟨some a, m, rfl, fun h => absurd rfl h⟩, by simp, fun p hp => by cases hp⟩
    · have hplain : a = ⟨a.block, a.off, none⟩ := by
        obtain ⟨cs', h1, _⟩ := hel 0 (by omega)
        unfold World.cells? at h1
        rw [if_pos (Nat.zero_le _)] at h1
        have hr : List.range 4 = [0, 1, 2, 3] := by decide
        rw [hr] at h1
        simp only [List.mapM_cons, Option.bind_eq_bind, Option.bind_eq_some_iff] at h1
        obtain ⟨x, h2, _⟩ := h1
        have e : (a.add (0 * 4)).add 0 = a := by simp [Addr.add]
        rw [e] at h2
        exact addr_plain h2
      have each : ∀ i, i < n0 → ∃ q : Q4, QAt W a.block (a.off + i * 4) q ∧ q.Ok := by
        intro i hi
        obtain ⟨cs', h1, h2⟩ := hel i (by omega)
        rw [hplain, Addr.add_lit] at h1
        exact open_q4 h1 h2
      have hch : ∃ f : Nat → Q4, ∀ i, i < n0 → QAt W a.block (a.off + i * 4) (f i) ∧ (f i).Ok := by
        refine ⟨fun i => if h : i < n0 then Classical.choose (each i h) else ⟨0, 0, 0, 0⟩, fun i hi => ?_⟩
        simp only [dif_pos hi]
        exact Classical.choose_spec (each i hi)
      obtain ⟨f, hf⟩ := hch
      have hlen : ((List.range n0).map f).length = n0 := by simp
      refine ⟨(List.range n0).map f, ⟨some a, m, by rw [hlen], fun _ => ⟨a.block, a.off, congrArg some hplain, ?_⟩⟩, by rw [hlen]; exact hmx, ?_⟩
      · intro i hi
        rw [hlen] at hi
        simpa using (hf i hi).1
      · intro p hp
        obtain ⟨i, hi, rfl⟩ := List.mem_map.1 hp
        exact (hf i (List.mem_range.1 hi)).2
end Go.Proofs.Ytknanpnbpmmlgaa

/- A slice of calls among the arguments, bounded by the form's own reach: the list of them. -/
import Derived.Test.YtikdmnfmnkmffaaDoorArgRows
import Derived.Test.YtikdmnfmnkmffaaDoorAll
set_option linter.unusedVariables false
namespace Go.Proofs.YtikdmnfmnkmffaaDoor
open Go Go.RowKit Go.ChangeShapes Go.WideShapes

theorem Tryd.cellsOp : Tryd.prog.cellsOf 30 = 6 := by kernel_rfl
theorem Tryd.bytesOp : Tryd.prog.bytesOf 30 = 72 := by kernel_rfl
theorem Tryd.cellsInt1 : Tryd.prog.cellsOf 3 = 1 := by kernel_rfl
theorem Tryd.cellsU32 : Tryd.prog.cellsOf 27 = 1 := by kernel_rfl
theorem Tryd.cellsRows : Tryd.prog.cellsOf 28 = 1 := by kernel_rfl
theorem Tryd.readableOps : Tryd.prog.readableRec 22 = true := by kernel_rfl

/-- One call, read out of its six cells. -/
theorem open_op {H : Type} {enc : TypeId × Value → H} {W : World} {b o n : Nat} {cs : List Value} {x : DataW H × List MemPlace} (hc : W.cells? 0 ⟨b, o, none⟩ 6 = some cs)
    (h : DataW.trod enc Tryd.prog W 0 (fun _ => true) true n 30 cs = some x) :
    ∃ p : OpD, OpAt W b o p ∧ ((DataW.weights Tryd.prog 30 x.1).all (· ≤ reachBytes) = true → p.Fits) := by
  obtain ⟨xs, m, _, rfl, hl, hlen, hf⟩ := DataW.trod_struct Tryd.underlying30 h
  rw [Tryd.cellsOp] at hl
  match cs, hl with
  | [c0, c1, c2, c3, c4, c5], _ =>
    match xs, hlen with
    | [y0, y1, y2, y3, y4, y5], _ =>
      have f0 : DataW.trod enc Tryd.prog W 0 (fun _ => true) true m 3 (([c0, c1, c2, c3, c4, c5].drop 0).take (Tryd.prog.cellsOf 3)) = some y0 := hf 0 _ rfl
      have f1 : DataW.trod enc Tryd.prog W 0 (fun _ => true) true m 26 (([c0, c1, c2, c3, c4, c5].drop 1).take (Tryd.prog.cellsOf 26)) = some y1 := hf 1 _ rfl
      have f2 : DataW.trod enc Tryd.prog W 0 (fun _ => true) true m 27 (([c0, c1, c2, c3, c4, c5].drop 2).take (Tryd.prog.cellsOf 27)) = some y2 := hf 2 _ rfl
      have f3 : DataW.trod enc Tryd.prog W 0 (fun _ => true) true m 27 (([c0, c1, c2, c3, c4, c5].drop 3).take (Tryd.prog.cellsOf 27)) = some y3 := hf 3 _ rfl
      have f4 : DataW.trod enc Tryd.prog W 0 (fun _ => true) true m 3 (([c0, c1, c2, c3, c4, c5].drop 4).take (Tryd.prog.cellsOf 3)) = some y4 := hf 4 _ rfl
      have f5 : DataW.trod enc Tryd.prog W 0 (fun _ => true) true m 28 (([c0, c1, c2, c3, c4, c5].drop 5).take (Tryd.prog.cellsOf 28)) = some y5 := hf 5 _ rfl
      rw [Tryd.cellsInt1] at f0 f4
      rw [Tryd.cellsBytes] at f1
      rw [Tryd.cellsU32] at f2 f3
      rw [Tryd.cellsRows] at f5
      simp at f0 f1 f2 f3 f4 f5
      obtain ⟨k, e0, _, _⟩ := DataW.trod_int Tryd.underlying3 f0
      obtain ⟨q, e2, _, wq⟩ := DataW.trod_int Tryd.underlying27 f2
      obtain ⟨r, e3, _, wr⟩ := DataW.trod_int Tryd.underlying27 f3
      obtain ⟨z, e4, _, wz⟩ := DataW.trod_int Tryd.underlying3 f4
      simp at e0 e2 e3 e4
      subst e0 e2 e3 e4
      have hcells : W.cell? ⟨b, o, none⟩ = some (.int .i64 k) ∧ W.cell? ⟨b, o + 1, none⟩ = some c1 ∧ W.cell? ⟨b, o + 2, none⟩ = some (.int .u32 q) ∧ W.cell? ⟨b, o + 3, none⟩ = some (.int .u32 r) ∧ W.cell? ⟨b, o + 4, none⟩ = some (.int .i64 z) ∧ W.cell? ⟨b, o + 5, none⟩ = some c5 := by
        unfold World.cells? at hc
        rw [if_pos (Nat.zero_le _)] at hc
        have hr : List.range 6 = [0, 1, 2, 3, 4, 5] := by decide
        rw [hr] at hc
        simp only [List.mapM_cons, List.mapM_nil, Addr.add_lit, Nat.add_zero] at hc
        simp only [Option.bind_eq_bind, Option.bind_eq_some_iff, Option.pure_def, Option.some.injEq] at hc
        obtain ⟨a0, h0, r0, ⟨a1, h1, r1, ⟨a2, h2, r2, ⟨a3, h3, r3, ⟨a4, h4, r4, ⟨a5, h5, r5, g1, g2⟩, g3⟩, g4⟩, g5⟩, g6⟩, g7⟩ := hc
        subst g1 g2 g3 g4 g5 g6
        simp at g7
        obtain ⟨rfl, rfl, rfl, rfl, rfl, rfl⟩ := g7
        exact ⟨h0, h1, h2, h3, h4, h5⟩
      have hbq := bounds_u32 wq
      have hbr := bounds_u32 wr
      have hbz := bounds_i64 wz
      obtain ⟨q', rfl⟩ := Int.eq_ofNat_of_zero_le hbq.1
      obtain ⟨r', rfl⟩ := Int.eq_ofNat_of_zero_le hbr.1
      have eq : (BitVec.ofNat 32 q').toNat = q' := by rw [BitVec.toNat_ofNat]; exact Nat.mod_eq_of_lt (by omega)
      have er : (BitVec.ofNat 32 r').toNat = r' := by rw [BitVec.toNat_ofNat]; exact Nat.mod_eq_of_lt (by omega)
      have hv : ∃ a n c, c1 = .slice a n c := by
        rcases DataW.trod_slice Tryd.underlying26 f1 with ⟨h, _⟩ | ⟨a, len, cap, _, _, _, _, h, _⟩
        · simp at h; exact ⟨_, _, _, h⟩
        · simp at h; exact ⟨_, _, _, h⟩
      have hv5 : ∃ a n c, c5 = .slice a n c := by
        rcases DataW.trod_slice Tryd.underlying28 f5 with ⟨h, _⟩ | ⟨a, len, cap, _, _, _, _, h, _⟩
        · simp at h; exact ⟨_, _, _, h⟩
        · simp at h; exact ⟨_, _, _, h⟩
      obtain ⟨a0, n0, c0', rfl⟩ := hv
      obtain ⟨a5, n5, c5', rfl⟩ := hv5
      have htr : DataW.Trod enc Tryd.prog W 0 (fun _ => true) true 26 (.slice a0 n0 c0') y1.1 y1.2 := ⟨m, by simpa [Value.cells] using f1⟩
      have htr5 : DataW.Trod enc Tryd.prog W 0 (fun _ => true) true 28 (.slice a5 n5 c5') y5.1 y5.2 := ⟨m, by simpa [Value.cells] using f5⟩
      obtain ⟨bs, hs, hd⟩ := open_bytes ⟨_, _, _, rfl⟩ htr
      obtain ⟨L, hL, hLf⟩ := open_rows ⟨_, _, _, rfl⟩ htr5
      refine ⟨⟨k, bs, BitVec.ofNat 32 q', BitVec.ofNat 32 r', z, L⟩, ⟨_, _, hcells.1, hcells.2.1, ?_, ?_, hcells.2.2.2.2.1, hcells.2.2.2.2.2, hs, hL⟩, fun hw => ?_⟩
      · simp only [U, eq]; exact hcells.2.2.1
      · simp only [U, er]; exact hcells.2.2.2.1
      have e : DataW.weights Tryd.prog 30 (.agg ([y0, y1, y2, y3, y4, y5].map (·.1))) = DataW.weightsEach Tryd.prog [3, 26, 27, 27, 3, 28] [y0.1, y1.1, y2.1, y3.1, y4.1, y5.1] := by
        simp only [DataW.weights, Tryd.underlying30]
        rfl
      rw [e] at hw
      have h1 := bytes_bound (j := 1) hw rfl rfl hd
      have h5 := hLf (List.all_eq_true.2 fun n hn => List.all_eq_true.1 hw n (DataW.weights_mem_each (j := 5) rfl rfl n hn))
      refine ⟨hbz.2, hbz.1, ?_, ?_, fun l hl => ?_⟩
      · show (bs.length : Int) ≤ _; omega
      · have := h5.1; show (L.length : Int) ≤ _; omega
      · have := h5.2 l hl; omega

theorem open_oplist {H : Type} {enc : TypeId × Value → H} {W : World} {v : Value} {d : DataW H} {p : List MemPlace} (hv : ∃ a n c, v = .slice a n c)
    (h : DataW.Trod enc Tryd.prog W 0 (fun _ => true) true 22 v d p) :
    ∃ ps, OpsIn W v ps ∧ ((DataW.weights Tryd.prog 22 d).all (· ≤ reachBytes) = true → (ps.length : Int) ≤ 140737488355327 ∧ ∀ p ∈ ps, p.Fits) := by
  obtain ⟨a0, n0, c0, rfl⟩ := hv
  obtain ⟨fuel, hf⟩ := h
  rcases Go.Deep.open_slice Tryd.underlying22 hf with ⟨hcs, hx⟩ | ⟨a, len, cap, m, n, D, Pl, hcs, _, hl, hm, hm2, hx, hel⟩
  · simp [Value.cells] at hcs
    obtain ⟨rfl, rfl, rfl⟩ := hcs
    exact ⟨[], ⟨none, 0, rfl, fun h => absurd rfl h⟩, fun _ => ⟨by simp, fun p hp => by cases hp⟩⟩
  · simp [Value.cells] at hcs
    obtain ⟨rfl, rfl, rfl⟩ := hcs
    simp only [if_true] at hm2
    subst hm2
    simp only [Prod.mk.injEq] at hx
    obtain ⟨rfl, _⟩ := hx
    rw [Tryd.cellsOp] at hel
    by_cases hn : n0 = 0
    · subst hn
      exact ⟨[], ⟨some a, m, rfl, fun h => absurd rfl h⟩, fun _ => ⟨by simp, fun p hp => by cases hp⟩⟩
    · have hplain : a = ⟨a.block, a.off, none⟩ := by
        obtain ⟨cs', h1, _⟩ := hel 0 (by omega)
        unfold World.cells? at h1
        rw [if_pos (Nat.zero_le _)] at h1
        have hr : List.range 6 = [0, 1, 2, 3, 4, 5] := by decide
        rw [hr] at h1
        simp only [List.mapM_cons, Option.bind_eq_bind, Option.bind_eq_some_iff] at h1
        obtain ⟨x, h2, _⟩ := h1
        have e : (a.add (0 * 6)).add 0 = a := by simp [Addr.add]
        rw [e] at h2
        exact addr_plain h2
      have each : ∀ i, i < n0 → ∃ p : OpD, OpAt W a.block (a.off + i * 6) p ∧ ((DataW.weights Tryd.prog 30 (D i)).all (· ≤ reachBytes) = true → p.Fits) := by
        intro i hi
        obtain ⟨cs', h1, h2⟩ := hel i (by omega)
        rw [hplain, Addr.add_lit] at h1
        exact open_op h1 h2
      have hch : ∃ f : Nat → OpD, ∀ i, i < n0 → OpAt W a.block (a.off + i * 6) (f i) ∧ ((DataW.weights Tryd.prog 30 (D i)).all (· ≤ reachBytes) = true → (f i).Fits) := by
        refine ⟨fun i => if h : i < n0 then Classical.choose (each i h) else ⟨0, [], 0, 0, 0, []⟩, fun i hi => ?_⟩
        simp only [dif_pos hi]
        exact Classical.choose_spec (each i hi)
      obtain ⟨f, hf⟩ := hch
      have hlen : ((List.range n0).map f).length = n0 := by simp
      refine ⟨(List.range n0).map f, ⟨some a, m, by rw [hlen], fun _ => ⟨a.block, a.off, congrArg some hplain, ?_⟩⟩, fun hw => ?_⟩
      · intro i hi
        rw [hlen] at hi
        simpa using (hf i hi).1
      · simp only [DataW.weights, Tryd.underlying22, List.all_cons, List.all_append, Bool.and_eq_true] at hw
        obtain ⟨hw1, hw2, _⟩ := hw
        have hw1' := of_decide_eq_true hw1
        rw [Tryd.bytesOp, List.length_map, List.length_range] at hw1'
        refine ⟨?_, ?_⟩
        · rw [hlen]
          simp only [reachBytes] at hw1'
          omega
        · intro p hp
          obtain ⟨i, hi, rfl⟩ := List.mem_map.1 hp
          have hi' := List.mem_range.1 hi
          exact (hf i hi').2 (all_part hw2 (List.mem_map.2 ⟨i, List.mem_range.2 hi', rfl⟩))
end Go.Proofs.YtikdmnfmnkmffaaDoor

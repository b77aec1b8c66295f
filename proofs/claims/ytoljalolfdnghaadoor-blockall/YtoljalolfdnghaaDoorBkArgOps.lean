/- block: a slice of calls among the arguments, bounded by the form's own reach: the list of them. -/
import Derived.Test.YtoljalolfdnghaaDoorBkArg
import Derived.Test.YtoljalolfdnghaaDoorBkAll
set_option linter.unusedVariables false
namespace Go.Proofs.YtoljalolfdnghaaDoor
open Go Go.RowKit Go.ChangeShapes Go.WideShapes

theorem Tryd.cellsOp : Tryd.prog.cellsOf 31 = 5 := by kernel_rfl
theorem Tryd.bytesOp : Tryd.prog.bytesOf 31 = 88 := by kernel_rfl
theorem Tryd.cellsInt1 : Tryd.prog.cellsOf 3 = 1 := by kernel_rfl
theorem Tryd.bytesInt1 : Tryd.prog.bytesOf 3 = 8 := by kernel_rfl
theorem Tryd.cellsU64 : Tryd.prog.cellsOf 26 = 1 := by kernel_rfl
theorem Tryd.cellsRows : Tryd.prog.cellsOf 27 = 1 := by kernel_rfl
theorem Tryd.cellsIntsS : Tryd.prog.cellsOf 29 = 1 := by kernel_rfl
theorem Tryd.readableOps : Tryd.prog.readableRec 22 = true := by kernel_rfl

theorem open_intsS {H : Type} {enc : TypeId × Value → H} {W : World} {v : Value} {d : DataW H} {p : List MemPlace} (hv : ∃ a n c, v = .slice a n c)
    (h : DataW.Trod enc Tryd.prog W 0 (fun _ => true) true 29 v d p) :
    ∃ zs, SlI W v zs ∧ (∀ z ∈ zs, -9223372036854775808 ≤ z ∧ z ≤ 9223372036854775807) ∧ ((d = .nil ∧ zs = []) ∨ ∃ elems spare, d = .slice elems spare ∧ elems.length = zs.length) := by
  obtain ⟨a0, n0, c0, rfl⟩ := hv
  obtain ⟨fuel, hf⟩ := h
  rcases open_ints Tryd.underlying29 Tryd.underlying3 Tryd.cellsInt1 hf with ⟨hcs, hx⟩ | ⟨a, len', cap', zs, hcs, _, hl, hm, hz, hx, hcell, hwz⟩
  · simp [Value.cells] at hcs
    obtain ⟨rfl, rfl, rfl⟩ := hcs
    simp only [Prod.mk.injEq] at hx
    exact ⟨[], SlI.nil W, (fun z hz => by cases hz), .inl ⟨hx.1, rfl⟩⟩
  · simp [Value.cells] at hcs
    obtain ⟨rfl, rfl, rfl⟩ := hcs
    simp only [Prod.mk.injEq] at hx
    simp only [if_true] at hz
    have hlen : (zs.take n0).length = n0 := by simp; omega
    refine ⟨zs.take n0, ⟨some a, c0, by rw [hlen], by rw [hlen]; exact hl, (by intro e; cases e), fun hne => ?_⟩, fun z hz => ?_, .inr ⟨_, _, hx.1, by simp [lits]⟩⟩
    · have hn0 : 0 < n0 := by rw [← hlen]; exact List.length_pos_iff.2 hne
      have hc0 := hcell 0 (by omega)
      have ha : a = ⟨a.block, a.off, none⟩ := by
        have : a.add 0 = a := by simp [Addr.add]
        rw [this] at hc0
        exact addr_plain hc0
      refine ⟨a.block, a.off, congrArg some ha, ?_⟩
      intro i hi
      rw [hlen] at hi
      have hc := hcell i (by omega)
      rw [ha, Addr.add_lit] at hc
      rw [hc]
      have hzi : i < zs.length := by omega
      have e1 : zs.getD i 0 = zs[i] := by simp [List.getD, hzi]
      simp only [List.getElem_take, e1]
    · exact bounds_i64 (hwz z (List.mem_of_mem_take hz))

theorem ints_weight {H : Type} {d : DataW H} {zs : List Int} (hw : (DataW.weights Tryd.prog 29 d).all (· ≤ reachBytes) = true)
    (h : (d = .nil ∧ zs = []) ∨ ∃ elems spare, d = .slice elems spare ∧ elems.length = zs.length) : (zs.length : Int) ≤ 140737488351232 := by
  rcases h with ⟨_, rfl⟩ | ⟨elems, spare, rfl, he⟩
  · simp
  · simp only [DataW.weights, Tryd.underlying29, List.all_cons, Bool.and_eq_true] at hw
    have h1 := of_decide_eq_true hw.1
    rw [Tryd.bytesInt1] at h1
    simp only [reachBytes] at h1
    omega

/-- One call, read out of its five cells. -/
theorem open_op {H : Type} {enc : TypeId × Value → H} {W : World} {b o n : Nat} {cs : List Value} {x : DataW H × List MemPlace} (hc : W.cells? 0 ⟨b, o, none⟩ 5 = some cs)
    (h : DataW.trod enc Tryd.prog W 0 (fun _ => true) true n 31 cs = some x) :
    ∃ p : OpD, OpAt W b o p ∧ ((DataW.weights Tryd.prog 31 x.1).all (· ≤ reachBytes) = true → p.Fits) := by
  obtain ⟨xs, m, _, rfl, hl, hlen, hf⟩ := DataW.trod_struct Tryd.underlying31 h
  rw [Tryd.cellsOp] at hl
  match cs, hl with
  | [c0, c1, c2, c3, c4], _ =>
    match xs, hlen with
    | [y0, y1, y2, y3, y4], _ =>
      have f0 : DataW.trod enc Tryd.prog W 0 (fun _ => true) true m 3 (([c0, c1, c2, c3, c4].drop 0).take (Tryd.prog.cellsOf 3)) = some y0 := hf 0 _ rfl
      have f1 : DataW.trod enc Tryd.prog W 0 (fun _ => true) true m 26 (([c0, c1, c2, c3, c4].drop 1).take (Tryd.prog.cellsOf 26)) = some y1 := hf 1 _ rfl
      have f2 : DataW.trod enc Tryd.prog W 0 (fun _ => true) true m 27 (([c0, c1, c2, c3, c4].drop 2).take (Tryd.prog.cellsOf 27)) = some y2 := hf 2 _ rfl
      have f3 : DataW.trod enc Tryd.prog W 0 (fun _ => true) true m 28 (([c0, c1, c2, c3, c4].drop 3).take (Tryd.prog.cellsOf 28)) = some y3 := hf 3 _ rfl
      have f4 : DataW.trod enc Tryd.prog W 0 (fun _ => true) true m 29 (([c0, c1, c2, c3, c4].drop 4).take (Tryd.prog.cellsOf 29)) = some y4 := hf 4 _ rfl
      rw [Tryd.cellsInt1] at f0
      rw [Tryd.cellsU64] at f1
      rw [Tryd.cellsRows] at f2
      rw [Tryd.cellsBytes] at f3
      rw [Tryd.cellsIntsS] at f4
      simp at f0 f1 f2 f3 f4
      obtain ⟨k, e0, _, _⟩ := DataW.trod_int Tryd.underlying3 f0
      obtain ⟨q, e1, _, wq⟩ := DataW.trod_int Tryd.underlying26 f1
      simp at e0 e1
      subst e0 e1
      have hcells : W.cell? ⟨b, o, none⟩ = some (.int .i64 k) ∧ W.cell? ⟨b, o + 1, none⟩ = some (.int .u64 q) ∧ W.cell? ⟨b, o + 2, none⟩ = some c2 ∧ W.cell? ⟨b, o + 3, none⟩ = some c3 ∧ W.cell? ⟨b, o + 4, none⟩ = some c4 := by
        unfold World.cells? at hc
        rw [if_pos (Nat.zero_le _)] at hc
        have hr : List.range 5 = [0, 1, 2, 3, 4] := by decide
        rw [hr] at hc
        simp only [List.mapM_cons, List.mapM_nil, Addr.add_lit, Nat.add_zero] at hc
        simp only [Option.bind_eq_bind, Option.bind_eq_some_iff, Option.pure_def, Option.some.injEq] at hc
        obtain ⟨a0, h0, r0, ⟨a1, h1, r1, ⟨a2, h2, r2, ⟨a3, h3, r3, ⟨a4, h4, r4, g1, g2⟩, g3⟩, g4⟩, g5⟩, g6⟩ := hc
        subst g1 g2 g3 g4 g5
        simp at g6
        obtain ⟨rfl, rfl, rfl, rfl, rfl⟩ := g6
        exact ⟨h0, h1, h2, h3, h4⟩
      have hbq := bounds_u64 wq
      obtain ⟨q', rfl⟩ := Int.eq_ofNat_of_zero_le hbq.1
      have hv2 : ∃ a n c, c2 = .slice a n c := by
        rcases DataW.trod_slice Tryd.underlying27 f2 with ⟨h, _⟩ | ⟨a, len, cap, _, _, _, _, h, _⟩
        · simp at h; exact ⟨_, _, _, h⟩
        · simp at h; exact ⟨_, _, _, h⟩
      have hv3 : ∃ a n c, c3 = .slice a n c := by
        rcases DataW.trod_slice Tryd.underlying28 f3 with ⟨h, _⟩ | ⟨a, len, cap, _, _, _, _, h, _⟩
        · simp at h; exact ⟨_, _, _, h⟩
        · simp at h; exact ⟨_, _, _, h⟩
      have hv4 : ∃ a n c, c4 = .slice a n c := by
        rcases DataW.trod_slice Tryd.underlying29 f4 with ⟨h, _⟩ | ⟨a, len, cap, _, _, _, _, h, _⟩
        · simp at h; exact ⟨_, _, _, h⟩
        · simp at h; exact ⟨_, _, _, h⟩
      obtain ⟨a2, n2, c2', rfl⟩ := hv2
      obtain ⟨a3, n3, c3', rfl⟩ := hv3
      obtain ⟨a4, n4, c4', rfl⟩ := hv4
      have htr2 : DataW.Trod enc Tryd.prog W 0 (fun _ => true) true 27 (.slice a2 n2 c2') y2.1 y2.2 := ⟨m, by simpa [Value.cells] using f2⟩
      have htr3 : DataW.Trod enc Tryd.prog W 0 (fun _ => true) true 28 (.slice a3 n3 c3') y3.1 y3.2 := ⟨m, by simpa [Value.cells] using f3⟩
      have htr4 : DataW.Trod enc Tryd.prog W 0 (fun _ => true) true 29 (.slice a4 n4 c4') y4.1 y4.2 := ⟨m, by simpa [Value.cells] using f4⟩
      obtain ⟨L, hL, hLf⟩ := open_rows ⟨_, _, _, rfl⟩ htr2
      obtain ⟨bs, hs, hd⟩ := open_bytes ⟨_, _, _, rfl⟩ htr3
      obtain ⟨zs, hZ, hzz, hzd⟩ := open_intsS ⟨_, _, _, rfl⟩ htr4
      refine ⟨⟨k, q', L, bs, zs⟩, ⟨_, _, _, hcells.1, hcells.2.1, hcells.2.2.1, hcells.2.2.2.1, hcells.2.2.2.2, hL, hs, hZ⟩, fun hw => ?_⟩
      have e : DataW.weights Tryd.prog 31 (.agg ([y0, y1, y2, y3, y4].map (·.1))) = DataW.weightsEach Tryd.prog [3, 26, 27, 28, 29] [y0.1, y1.1, y2.1, y3.1, y4.1] := by
        simp only [DataW.weights, Tryd.underlying31]
        rfl
      rw [e] at hw
      have h2 := hLf (List.all_eq_true.2 fun n hn => List.all_eq_true.1 hw n (DataW.weights_mem_each (j := 2) rfl rfl n hn))
      have h3 := bytes_weight (List.all_eq_true.2 fun n hn => List.all_eq_true.1 hw n (DataW.weights_mem_each (j := 3) rfl rfl n hn)) hd
      have h4 := ints_weight (List.all_eq_true.2 fun n hn => List.all_eq_true.1 hw n (DataW.weights_mem_each (j := 4) rfl rfl n hn)) hzd
      refine ⟨?_, ?_, fun l hl => ?_, ?_, ?_, hzz⟩
      · show q' < _; omega
      · have := h2.1; show (L.length : Int) ≤ _; omega
      · have := h2.2 l hl; omega
      · show (bs.length : Int) ≤ _; omega
      · show (zs.length : Int) ≤ _; omega

theorem open_oplist {H : Type} {enc : TypeId × Value → H} {W : World} {v : Value} {d : DataW H} {p : List MemPlace} (hv : ∃ a n c, v = .slice a n c)
    (h : DataW.Trod enc Tryd.prog W 0 (fun _ => true) true 22 v d p) :
    ∃ ps, OpsIn W v ps ∧ ((DataW.weights Tryd.prog 22 d).all (· ≤ reachBytes) = true → (ps.length : Int) ≤ 140737488355327 ∧ ∀ p ∈ ps, p.Fits) := by
  obtain ⟨a0, n0, c0, rfl⟩ := hv
  obtain ⟨fuel, hf⟩ := h
  rcases Go.Deep.open_slice Tryd.underlying22 hf with ⟨hcs, hx⟩ | ⟨a, len, cap, m, n, D, Pl, hcs, _, hl, hm, hm2, hx, hel⟩
  · simp [Value.cells] at hcs
    obtain ⟨rfl, rfl, rfl⟩ := hcs
    exact ⟨[], ⟨none, 0, rfl, fun h => absurd rfl h⟩, fun _ => ⟨by simp, fun p hp => by cases hp⟩⟩
  · simp [Value.cells] at hcs
    obtain ⟨rfl, rfl, rfl⟩ := hcs
    simp only [if_true] at hm2
    subst hm2
    simp only [Prod.mk.injEq] at hx
    obtain ⟨rfl, _⟩ := hx
    rw [Tryd.cellsOp] at hel
    by_cases hn : n0 = 0
    · subst hn
      exact ⟨[], ⟨some a, m, rfl, fun h => absurd rfl h⟩, fun _ => ⟨by simp, fun p hp => by cases hp⟩⟩
    · have hplain : a = ⟨a.block, a.off, none⟩ := by
        obtain ⟨cs', h1, _⟩ := hel 0 (by omega)
        unfold World.cells? at h1
        rw [if_pos (Nat.zero_le _)] at h1
        have hr : List.range 5 = [0, 1, 2, 3, 4] := by decide
        rw [hr] at h1
        simp only [List.mapM_cons, Option.bind_eq_bind, Option.bind_eq_some_iff] at h1
        obtain ⟨x, h2, _⟩ := h1
        have e : (a.add (0 * 5)).add 0 = a := by simp [Addr.add]
        rw [e] at h2
        exact addr_plain h2
      have each : ∀ i, i < n0 → ∃ p : OpD, OpAt W a.block (a.off + i * 5) p ∧ ((DataW.weights Tryd.prog 31 (D i)).all (· ≤ reachBytes) = true → p.Fits) := by
        intro i hi
        obtain ⟨cs', h1, h2⟩ := hel i (by omega)
        rw [hplain, Addr.add_lit] at h1
        exact open_op h1 h2
      have hch : ∃ f : Nat → OpD, ∀ i, i < n0 → OpAt W a.block (a.off + i * 5) (f i) ∧ ((DataW.weights Tryd.prog 31 (D i)).all (· ≤ reachBytes) = true → (f i).Fits) := by
        refine ⟨fun i => if h : i < n0 then Classical.choose (each i h) else ⟨0, 0, [], [], []⟩, fun i hi => ?_⟩
        simp only [dif_pos hi]
        exact Classical.choose_spec (each i hi)
      obtain ⟨f, hf⟩ := hch
      have hlen : ((List.range n0).map f).length = n0 := by simp
      refine ⟨(List.range n0).map f, ⟨some a, m, by rw [hlen], fun _ => ⟨a.block, a.off, congrArg some hplain, ?_⟩⟩, fun hw => ?_⟩
      · intro i hi
        rw [hlen] at hi
        simpa using (hf i hi).1
      · simp only [DataW.weights, Tryd.underlying22, List.all_cons, List.all_append, Bool.and_eq_true] at hw
        obtain ⟨hw1, hw2, _⟩ := hw
        have hw1' := of_decide_eq_true hw1
        rw [Tryd.bytesOp, List.length_map, List.length_range] at hw1'
        refine ⟨?_, ?_⟩
        · rw [hlen]
          simp only [reachBytes] at hw1'
          omega
        · intro p hp
          obtain ⟨i, hi, rfl⟩ := List.mem_map.1 hp
          have hi' := List.mem_range.1 hi
          exact (hf i hi').2 (all_part hw2 (List.mem_map.2 ⟨i, List.mem_range.2 hi', rfl⟩))
end Go.Proofs.YtoljalolfdnghaaDoor

/- Merged: RcArgOps. -/
import Derived.Test.YtcllenlpoknakaaDoorMr39
import Derived.Test.YtcllenlpoknakaaDoorMr40
import Derived.Deep.Slices
set_option linter.unusedVariables false
namespace Go.Proofs.YtcllenlpoknakaaDoor
open Go Go.RowKit Go.ChangeShapes Go.WideShapes Go.Joins

theorem Tryd.rcellsOp : Tryd.prog.cellsOf 35 = 13 := by kernel_rfl
theorem Tryd.rbytesOp : Tryd.prog.bytesOf 35 = 128 := by kernel_rfl
theorem Tryd.rcellsBytes : Tryd.prog.cellsOf 33 = 1 := by kernel_rfl
theorem Tryd.readableRops : Tryd.prog.readableRec 22 = true := by kernel_rfl
theorem rall_part {H : Type} {P : Program} {e : TypeId} {d : DataW H} : ∀ {l : List (DataW H)}, (DataW.weightsAll P e l).all (· ≤ reachBytes) = true → d ∈ l → (DataW.weights P e d).all (· ≤ reachBytes) = true
  | [], _, h => by cases h
  | x :: r, hw, h => by
    simp only [DataW.weightsAll, List.all_append, Bool.and_eq_true] at hw
    rcases List.mem_cons.1 h with e | e
    · subst e; exact hw.1
    · exact rall_part hw.2 e

set_option maxRecDepth 20000 in
/-- One call, read out of its thirteen cells. -/
theorem open_rop {H : Type} {enc : TypeId × Value → H} {W : World} {b o n : Nat} {cs : List Value} {x : DataW H × List MemPlace} (hc : W.cells? 0 ⟨b, o, none⟩ 13 = some cs)
    (h : DataW.trod enc Tryd.prog W 0 (fun _ => true) true n 35 cs = some x) :
    ∃ p : OpRd, OpRAt W b o p ∧ ((DataW.weights Tryd.prog 35 x.1).all (· ≤ reachBytes) = true → p.Fits) := by
  obtain ⟨xs, m, _, rfl, hl, hlen, hf⟩ := DataW.trod_struct Tryd.underlying35 h
  rw [Tryd.rcellsOp] at hl
  match cs, hl with
  | [c0, c1, c2, c3, c4, c5, c6, c7, c8, c9, c10, c11, c12], _ =>
    match xs, hlen with
    | [y0, y1, y2], _ =>
      have f0 : DataW.trod enc Tryd.prog W 0 (fun _ => true) true m 3 (([c0, c1, c2, c3, c4, c5, c6, c7, c8, c9, c10, c11, c12].drop 0).take (Tryd.prog.cellsOf 3)) = some y0 := hf 0 _ rfl
      have f1 : DataW.trod enc Tryd.prog W 0 (fun _ => true) true m 32 (([c0, c1, c2, c3, c4, c5, c6, c7, c8, c9, c10, c11, c12].drop 1).take (Tryd.prog.cellsOf 32)) = some y1 := hf 1 _ rfl
      have f2 : DataW.trod enc Tryd.prog W 0 (fun _ => true) true m 33 (([c0, c1, c2, c3, c4, c5, c6, c7, c8, c9, c10, c11, c12].drop 12).take (Tryd.prog.cellsOf 33)) = some y2 := hf 2 _ rfl
      rw [Tryd.rcellsInt] at f0
      rw [Tryd.rcellsRec] at f1
      rw [Tryd.rcellsBytes] at f2
      simp at f0 f1 f2
      obtain ⟨q, rfl, rfl, _, _⟩ := rlit_int f0
      obtain ⟨r, hcs, hfit, hkd, hkl, hp1, _, hkw⟩ := open_rec_cells f1
      simp only [List.cons.injEq, and_true] at hcs
      obtain ⟨rfl, rfl, rfl, rfl, rfl, rfl, rfl, rfl, rfl, rfl, rfl⟩ := hcs
      have hcells : W.cell? ⟨b, o, none⟩ = some (.int .i64 q) ∧ W.cell? ⟨b, o + 1, none⟩ = some (.int .i64 r.kind) ∧ W.cell? ⟨b, o + 2, none⟩ = some (V r.floor) ∧ W.cell? ⟨b, o + 3, none⟩ = some (.string ⟨r.key.toArray⟩) ∧ W.cell? ⟨b, o + 4, none⟩ = some (.int .i64 r.pk) ∧ W.cell? ⟨b, o + 5, none⟩ = some (V r.gap) ∧ W.cell? ⟨b, o + 6, none⟩ = some (V r.slack) ∧ W.cell? ⟨b, o + 7, none⟩ = some (V r.limit) ∧ W.cell? ⟨b, o + 8, none⟩ = some (V r.span) ∧ W.cell? ⟨b, o + 9, none⟩ = some (V r.tat) ∧ W.cell? ⟨b, o + 10, none⟩ = some (V r.idx) ∧ W.cell? ⟨b, o + 11, none⟩ = some (V r.cnt) ∧ W.cell? ⟨b, o + 12, none⟩ = some c12 := by
        unfold World.cells? at hc
        rw [if_pos (Nat.zero_le _)] at hc
        have hr : List.range 13 = [0, 1, 2, 3, 4, 5, 6, 7, 8, 9, 10, 11, 12] := by decide
        rw [hr] at hc
        simp only [List.mapM_cons, List.mapM_nil, Addr.add_lit, Nat.add_zero] at hc
        simp only [Option.bind_eq_bind, Option.bind_eq_some_iff, Option.pure_def, Option.some.injEq] at hc
        obtain ⟨a0, h0, r0, ⟨a1, h1, r1, ⟨a2, h2, r2, ⟨a3, h3, r3, ⟨a4, h4, r4, ⟨a5, h5, r5, ⟨a6, h6, r6, ⟨a7, h7, r7, ⟨a8, h8, r8, ⟨a9, h9, r9, ⟨a10, h10, r10, ⟨a11, h11, r11, ⟨a12, h12, r12, g1, g2⟩, g3⟩, g4⟩, g5⟩, g6⟩, g7⟩, g8⟩, g9⟩, g10⟩, g11⟩, g12⟩, g13⟩, g14⟩ := hc
        subst g1 g2 g3 g4 g5 g6 g7 g8 g9 g10 g11 g12 g13
        simp at g14
        obtain ⟨rfl, rfl, rfl, rfl, rfl, rfl, rfl, rfl, rfl, rfl, rfl, rfl, rfl⟩ := g14
        exact ⟨h0, h1, h2, h3, h4, h5, h6, h7, h8, h9, h10, h11, h12⟩
      have hv : ∃ a n c, c12 = .slice a n c := by
        rcases DataW.trod_slice Tryd.underlying33 f2 with ⟨h, _⟩ | ⟨a, len, cap, _, _, _, _, h, _⟩
        · simp at h; exact ⟨_, _, _, h⟩
        · simp at h; exact ⟨_, _, _, h⟩
      obtain ⟨a2, n2, c2', rfl⟩ := hv
      have htr : DataW.Trod enc Tryd.prog W 0 (fun _ => true) true 33 (.slice a2 n2 c2') y2.1 y2.2 := ⟨m, by simpa [Value.cells] using f2⟩
      obtain ⟨bs, hs, hd⟩ := open_bytes ⟨_, _, _, rfl⟩ htr
      refine ⟨⟨q, r, bs⟩, ⟨_, hcells, hs⟩, fun hw => ?_⟩
      have e : DataW.weights Tryd.prog 35 (.agg (([(.lit (.int .i64 q), []), y1, y2] : List (DataW H × List MemPlace)).map (·.1))) = DataW.weightsEach Tryd.prog [3, 32, 33] [.lit (.int .i64 q), y1.1, y2.1] := by
        simp only [DataW.weights, Tryd.underlying35]
        rfl
      rw [e] at hw
      have hb2 := bytes_bound (bs := bs) (j := 2) hw rfl rfl hd
      have hk1 := hkw (List.all_eq_true.2 fun n hn => List.all_eq_true.1 hw n (DataW.weights_mem_each (j := 1) rfl rfl n hn))
      exact ⟨hfit, by show (r.key.length : Int) ≤ _; omega, by show (bs.length : Int) ≤ _; omega⟩

set_option maxRecDepth 20000 in
theorem open_rops {H : Type} {enc : TypeId × Value → H} {W : World} {v : Value} {d : DataW H} {p : List MemPlace} (hv : ∃ a n c, v = .slice a n c)
    (h : DataW.Trod enc Tryd.prog W 0 (fun _ => true) true 22 v d p) :
    ∃ ps, OpsRIn W v ps ∧ ((DataW.weights Tryd.prog 22 d).all (· ≤ reachBytes) = true → (ps.length : Int) ≤ 140737488351232 ∧ ∀ p ∈ ps, p.Fits) := by
  obtain ⟨a0, n0, c0, rfl⟩ := hv
  obtain ⟨fuel, hf⟩ := h
  rcases Go.Deep.open_slice Tryd.underlying22 hf with ⟨hcs, hx⟩ | ⟨a, len, cap, m, n, D, Pl, hcs, _, hl, hm, hm2, hx, hel⟩
  · simp [Value.cells] at hcs
    obtain ⟨rfl, rfl, rfl⟩ := hcs
    exact ⟨[], ⟨none, 0, rfl, fun h => absurd rfl h⟩, fun _ => ⟨by simp, fun p hp => by cases hp⟩⟩
  · simp [Value.cells] at hcs
    obtain ⟨rfl, rfl, rfl⟩ := hcs
    simp only [if_true] at hm2
    subst hm2
    simp only [Prod.mk.injEq] at hx
    obtain ⟨rfl, _⟩ := hx
    rw [Tryd.rcellsOp] at hel
    by_cases hn : n0 = 0
    · subst hn
      exact ⟨[], ⟨some a, m, rfl, fun h => absurd rfl h⟩, fun _ => ⟨by simp, fun p hp => by cases hp⟩⟩
    · have hplain : a = ⟨a.block, a.off, none⟩ := by
        obtain ⟨cs', h1, _⟩ := hel 0 (by omega)
        unfold World.cells? at h1
        rw [if_pos (Nat.zero_le _)] at h1
        have hr : List.range 13 = [0, 1, 2, 3, 4, 5, 6, 7, 8, 9, 10, 11, 12] := by decide
        rw [hr] at h1
        simp only [List.mapM_cons, Option.bind_eq_bind, Option.bind_eq_some_iff] at h1
        obtain ⟨x, h2, _⟩ := h1
        have e : (a.add (0 * 13)).add 0 = a := by simp [Addr.add]
        rw [e] at h2
        exact addr_plain h2
      have each : ∀ i, i < n0 → ∃ p : OpRd, OpRAt W a.block (a.off + i * 13) p ∧ ((DataW.weights Tryd.prog 35 (D i)).all (· ≤ reachBytes) = true → p.Fits) := by
        intro i hi
        obtain ⟨cs', h1, h2⟩ := hel i (by omega)
        rw [hplain, Addr.add_lit] at h1
        exact open_rop h1 h2
      have hch : ∃ f : Nat → OpRd, ∀ i, i < n0 → OpRAt W a.block (a.off + i * 13) (f i) ∧ ((DataW.weights Tryd.prog 35 (D i)).all (· ≤ reachBytes) = true → (f i).Fits) := by
        refine ⟨fun i => if h : i < n0 then Classical.choose (each i h) else ⟨0, rec0 0 0 [], []⟩, fun i hi => ?_⟩
        simp only [dif_pos hi]
        exact Classical.choose_spec (each i hi)
      obtain ⟨f, hf⟩ := hch
      have hlen : ((List.range n0).map f).length = n0 := by simp
      refine ⟨(List.range n0).map f, ⟨some a, m, by rw [hlen], fun _ => ⟨a.block, a.off, congrArg some hplain, ?_⟩⟩, fun hw => ?_⟩
      · intro i hi
        rw [hlen] at hi
        simpa using (hf i hi).1
      · simp only [DataW.weights, Tryd.underlying22, List.all_cons, List.all_append, Bool.and_eq_true] at hw
        obtain ⟨hw1, hw2, _⟩ := hw
        have hw1' := of_decide_eq_true hw1
        rw [Tryd.rbytesOp, List.length_map, List.length_range] at hw1'
        refine ⟨?_, ?_⟩
        · rw [hlen]
          simp only [reachBytes] at hw1'
          omega
        · intro p hp
          obtain ⟨i, hi, rfl⟩ := List.mem_map.1 hp
          have hi' := List.mem_range.1 hi
          exact (hf i hi').2 (rall_part hw2 (List.mem_map.2 ⟨i, List.mem_range.2 hi', rfl⟩))
end Go.Proofs.YtcllenlpoknakaaDoor

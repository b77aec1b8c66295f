/- A slice of Puts among the arguments, bounded by the form's own reach, its texts too: the list of them. -/
import Derived.Test.YtpjpjoefmnnpmaaDoorArgPutsW
set_option linter.unusedVariables false
namespace Go.Proofs.YtpjpjoefmnnpmaaDoor
open Go Go.RowKit Go.ChangeShapes Go.WideShapes

/-- One Put, read out of its four cells. -/
theorem open_putK {H : Type} {enc : TypeId × Value → H} {W : World} {b o n : Nat} {cs : List Value} {x : DataW H × List MemPlace} (hc : W.cells? 0 ⟨b, o, none⟩ 4 = some cs)
    (h : DataW.trod enc Tryd.prog W 0 (fun _ => true) true n 28 cs = some x) :
    ∃ p : PutD, PutAt W b o p ∧ ((DataW.weights Tryd.prog 28 x.1).all (· ≤ reachBytes) = true → (p.2.1.length : Int) ≤ 140737488351232 ∧ (p.2.2.2.size : Int) ≤ 140737488351232) := by
  obtain ⟨xs, m, _, rfl, hl, hlen, hf⟩ := DataW.trod_struct Tryd.underlying28 h
  rw [Tryd.cellsPut] at hl
  match cs, hl with
  | [c0, c1, c2, c3], _ =>
    match xs, hlen with
    | [y0, y1, y2, y3], _ =>
      have f0 : DataW.trod enc Tryd.prog W 0 (fun _ => true) true m 3 (([c0, c1, c2, c3].drop 0).take (Tryd.prog.cellsOf 3)) = some y0 := hf 0 _ rfl
      have f1 : DataW.trod enc Tryd.prog W 0 (fun _ => true) true m 25 (([c0, c1, c2, c3].drop 1).take (Tryd.prog.cellsOf 25)) = some y1 := hf 1 _ rfl
      have f2 : DataW.trod enc Tryd.prog W 0 (fun _ => true) true m 26 (([c0, c1, c2, c3].drop 2).take (Tryd.prog.cellsOf 26)) = some y2 := hf 2 _ rfl
      have f3 : DataW.trod enc Tryd.prog W 0 (fun _ => true) true m 9 (([c0, c1, c2, c3].drop 3).take (Tryd.prog.cellsOf 9)) = some y3 := hf 3 _ rfl
      rw [Tryd.cellsInt1] at f0
      rw [Tryd.cellsBytes] at f1
      rw [Tryd.cellsU64] at f2
      rw [Tryd.cellsStr] at f3
      simp at f0 f1 f2 f3
      obtain ⟨k, e0, _, _⟩ := DataW.trod_int Tryd.underlying3 f0
      obtain ⟨q, e2, _, wq⟩ := DataW.trod_int Tryd.underlying26 f2
      obtain ⟨s, e3, e3', _⟩ := DataW.trod_string Tryd.underlying9 f3
      simp at e0 e2 e3
      subst e0 e2 e3
      have hcells : W.cell? ⟨b, o, none⟩ = some (.int .i64 k) ∧ W.cell? ⟨b, o + 1, none⟩ = some c1 ∧ W.cell? ⟨b, o + 2, none⟩ = some (.int .u64 q) ∧ W.cell? ⟨b, o + 3, none⟩ = some (.string s) := by
        unfold World.cells? at hc
        rw [if_pos (Nat.zero_le _)] at hc
        have hr : List.range 4 = [0, 1, 2, 3] := by decide
        rw [hr] at hc
        simp only [List.mapM_cons, List.mapM_nil, Addr.add_lit, Nat.add_zero] at hc
        simp only [Option.bind_eq_bind, Option.bind_eq_some_iff, Option.pure_def, Option.some.injEq] at hc
        obtain ⟨a0, h0, r0, ⟨a1, h1, r1, ⟨a2, h2, r2, ⟨a3, h3, r3, h4, h5⟩, h6⟩, h7⟩, h8⟩ := hc
        subst h4 h5 h6 h7
        simp at h8
        obtain ⟨rfl, rfl, rfl, rfl⟩ := h8
        exact ⟨h0, h1, h2, h3⟩
      have hb := bounds_u64 wq
      obtain ⟨q', rfl⟩ := Int.eq_ofNat_of_zero_le hb.1
      have hv : ∃ a n c, c1 = .slice a n c := by
        rcases DataW.trod_slice Tryd.underlying25 f1 with ⟨h, _⟩ | ⟨a, len, cap, _, _, _, _, h, _⟩
        · simp at h; exact ⟨_, _, _, h⟩
        · simp at h; exact ⟨_, _, _, h⟩
      obtain ⟨a0, n0, c0', rfl⟩ := hv
      have htr : DataW.Trod enc Tryd.prog W 0 (fun _ => true) true 25 (.slice a0 n0 c0') y1.1 y1.2 := ⟨m, by simpa [Value.cells] using f1⟩
      obtain ⟨bs, hs, hd⟩ := open_bytes ⟨_, _, _, rfl⟩ htr
      refine ⟨(k, bs, q', s), ⟨_, hcells.1, hcells.2.1, hcells.2.2.1, hcells.2.2.2, hs, by show q' < 2 ^ 64; omega⟩, fun hw => ?_⟩
      have e : DataW.weights Tryd.prog 28 (.agg ([y0, y1, y2, y3].map (·.1))) = DataW.weightsEach Tryd.prog [3, 25, 26, 9] [y0.1, y1.1, y2.1, y3.1] := by
        simp only [DataW.weights, Tryd.underlying28]
        rfl
      rw [e] at hw
      have hb1 := bytes_bound (j := 1) hw rfl rfl hd
      have hs3 := sized_string hw (j := 3) (t := 9) (bytes := s.data.toList) rfl (by rw [e3']; rfl)
      simp only [reachBytes] at hs3
      exact ⟨by show (bs.length : Int) ≤ _; omega, by
        show (s.size : Int) ≤ _
        have hsz : s.data.toList.length = s.size := by simp
        omega⟩

theorem open_putlistK {H : Type} {enc : TypeId × Value → H} {W : World} {v : Value} {d : DataW H} {p : List MemPlace} (hv : ∃ a n c, v = .slice a n c)
    (h : DataW.Trod enc Tryd.prog W 0 (fun _ => true) true 22 v d p) :
    ∃ ps, PutsIn W v ps ∧ ((DataW.weights Tryd.prog 22 d).all (· ≤ reachBytes) = true → (ps.length : Int) ≤ 140737488351232 ∧ ∀ p ∈ ps, (p.2.1.length : Int) ≤ 140737488351232 ∧ (p.2.2.2.size : Int) ≤ 140737488351232) := by
  obtain ⟨a0, n0, c0, rfl⟩ := hv
  obtain ⟨fuel, hf⟩ := h
  rcases Go.Deep.open_slice Tryd.underlying22 hf with ⟨hcs, hx⟩ | ⟨a, len, cap, m, n, D, Pl, hcs, _, hl, hm, hm2, hx, hel⟩
  · simp [Value.cells] at hcs
    obtain ⟨rfl, rfl, rfl⟩ := hcs
    exact ⟨[], ⟨none, 0, rfl, fun h => absurd rfl h⟩, fun _ => ⟨by simp, fun p hp => by cases hp⟩⟩
  · simp [Value.cells] at hcs
    obtain ⟨rfl, rfl, rfl⟩ := hcs
    simp only [if_true] at hm2
    subst hm2
    simp only [Prod.mk.injEq] at hx
    obtain ⟨rfl, _⟩ := hx
    rw [Tryd.cellsPut] at hel
    by_cases hn : n0 = 0
    · subst hn
      exact ⟨[], ⟨some a, m, rfl, fun h => absurd rfl h⟩, fun _ => ⟨by simp, fun p hp => by cases hp⟩⟩
    · have hplain : a = ⟨a.block, a.off, none⟩ := by
        obtain ⟨cs', h1, _⟩ := hel 0 (by omega)
        unfold World.cells? at h1
        rw [if_pos (Nat.zero_le _)] at h1
        have hr : List.range 4 = [0, 1, 2, 3] := by decide
        rw [hr] at h1
        simp only [List.mapM_cons, Option.bind_eq_bind, Option.bind_eq_some_iff] at h1
        obtain ⟨x, h2, _⟩ := h1
        have e : (a.add (0 * 4)).add 0 = a := by simp [Addr.add]
        rw [e] at h2
        exact addr_plain h2
      have each : ∀ i, i < n0 → ∃ p : PutD, PutAt W a.block (a.off + i * 4) p ∧ ((DataW.weights Tryd.prog 28 (D i)).all (· ≤ reachBytes) = true → (p.2.1.length : Int) ≤ 140737488351232 ∧ (p.2.2.2.size : Int) ≤ 140737488351232) := by
        intro i hi
        obtain ⟨cs', h1, h2⟩ := hel i (by omega)
        rw [hplain, Addr.add_lit] at h1
        exact open_putK h1 h2
      have hch : ∃ f : Nat → PutD, ∀ i, i < n0 → PutAt W a.block (a.off + i * 4) (f i) ∧ ((DataW.weights Tryd.prog 28 (D i)).all (· ≤ reachBytes) = true → ((f i).2.1.length : Int) ≤ 140737488351232 ∧ ((f i).2.2.2.size : Int) ≤ 140737488351232) := by
        refine ⟨fun i => if h : i < n0 then Classical.choose (each i h) else (0, [], 0, .empty), fun i hi => ?_⟩
        simp only [dif_pos hi]
        exact Classical.choose_spec (each i hi)
      obtain ⟨f, hf⟩ := hch
      have hlen : ((List.range n0).map f).length = n0 := by simp
      refine ⟨(List.range n0).map f, ⟨some a, m, by rw [hlen], fun _ => ⟨a.block, a.off, congrArg some hplain, ?_⟩⟩, fun hw => ?_⟩
      · intro i hi
        rw [hlen] at hi
        simpa using (hf i hi).1
      · simp only [DataW.weights, Tryd.underlying22, List.all_cons, List.all_append, Bool.and_eq_true] at hw
        obtain ⟨hw1, hw2, _⟩ := hw
        have hw1' := of_decide_eq_true hw1
        rw [Tryd.bytesPut, List.length_map, List.length_range] at hw1'
        refine ⟨?_, ?_⟩
        · rw [hlen]
          simp only [reachBytes] at hw1'
          omega
        · intro p hp
          obtain ⟨i, hi, rfl⟩ := List.mem_map.1 hp
          have hi' := List.mem_range.1 hi
          exact (hf i hi').2 (all_part hw2 (List.mem_map.2 ⟨i, List.mem_range.2 hi', rfl⟩))
end Go.Proofs.YtpjpjoefmnnpmaaDoor

/- Merged: BkArg. -/
import Derived.Test.YtkfjkfpodkbkaaaDoorMk41
import Derived.Deep.Slices
set_option linter.unusedVariables false
namespace Go.Proofs.YtkfjkfpodkbkaaaDoor
open Go Go.RowKit Go.ChangeShapes Go.WideShapes

theorem Tryd.cellsBytes : Tryd.prog.cellsOf 27 = 1 := by kernel_rfl
theorem Tryd.bytesBytes : Tryd.prog.bytesOf 27 = 24 := by kernel_rfl
theorem Tryd.readableRows : Tryd.prog.readableRec 23 = true := by kernel_rfl

theorem all_part {H : Type} {P : Program} {e : TypeId} {d : DataW H} : ∀ {l : List (DataW H)}, (DataW.weightsAll P e l).all (· ≤ reachBytes) = true → d ∈ l → (DataW.weights P e d).all (· ≤ reachBytes) = true
  | [], _, h => by cases h
  | x :: r, hw, h => by
    simp only [DataW.weightsAll, List.all_append, Bool.and_eq_true] at hw
    rcases List.mem_cons.1 h with e | e
    · subst e; exact hw.1
    · exact all_part hw.2 e

/-- What the reach says of rows. -/
def RowsFit (L : List (List UInt8)) : Prop := (L.length : Int) ≤ 5864062014805 ∧ ∀ l ∈ L, (l.length : Int) ≤ 140737488351232

theorem bytes_weight {H : Type} {d : DataW H} {bs : List UInt8} (hw : (DataW.weights Tryd.prog 27 d).all (· ≤ reachBytes) = true)
    (h : (d = .nil ∧ bs = []) ∨ ∃ elems spare, d = .slice elems spare ∧ elems.length = bs.length) : (bs.length : Int) ≤ 140737488351232 := by
  rcases h with ⟨_, rfl⟩ | ⟨elems, spare, rfl, he⟩
  · simp
  · simp only [DataW.weights, Tryd.underlying27, List.all_cons, Bool.and_eq_true] at hw
    have h1 := of_decide_eq_true hw.1
    rw [Tryd.bytesU8] at h1
    simp only [reachBytes] at h1
    omega

theorem open_rows {H : Type} {enc : TypeId × Value → H} {W : World} {v : Value} {d : DataW H} {p : List MemPlace} (hv : ∃ a n c, v = .slice a n c)
    (h : DataW.Trod enc Tryd.prog W 0 (fun _ => true) true 23 v d p) :
    ∃ L, Rw W v L ∧ ((DataW.weights Tryd.prog 23 d).all (· ≤ reachBytes) = true → RowsFit L) := by
  obtain ⟨a0, n0, c0, rfl⟩ := hv
  obtain ⟨fuel, hf⟩ := h
  rcases Go.Deep.open_slice1 Tryd.underlying23 Tryd.cellsBytes hf with ⟨hcs, hx⟩ | ⟨a, len, cap, m, n, V, D, Pl, hcs, _, hl, hm, hm2, hx, hel⟩
  · simp [Value.cells] at hcs
    obtain ⟨rfl, rfl, rfl⟩ := hcs
    exact ⟨[], ⟨none, 0, rfl, Nat.le_refl _, fun h => absurd rfl h⟩, fun _ => ⟨by simp, fun l hl => by cases hl⟩⟩
  · simp [Value.cells] at hcs
    obtain ⟨rfl, rfl, rfl⟩ := hcs
    simp only [if_true] at hm2
    subst hm2
    simp only [Prod.mk.injEq] at hx
    obtain ⟨rfl, _⟩ := hx
    by_cases hn : n0 = 0
    · subst hn
      exact ⟨[], ⟨some a, m, rfl, Nat.zero_le _, fun h => absurd rfl h⟩, fun _ => ⟨by simp, fun l hl => by cases hl⟩⟩
    · have hplain : a = ⟨a.block, a.off, none⟩ := by
        have h2 := (hel 0 (by omega)).1
        have e : a.add 0 = a := by simp [Addr.add]
        rw [e] at h2
        exact addr_plain h2
      have each : ∀ i, i < n0 → ∃ bs, W.cell? ⟨a.block, a.off + i, none⟩ = some (V i) ∧ Sl 0 W (V i) bs ∧ ((DataW.weights Tryd.prog 27 (D i)).all (· ≤ reachBytes) = true → (bs.length : Int) ≤ 140737488351232) := by
        intro i hi
        obtain ⟨h1, h2⟩ := hel i (by omega)
        rw [hplain, Addr.add_lit] at h1
        have hv : ∃ a n c, V i = .slice a n c := by
          rcases DataW.trod_slice Tryd.underlying27 h2 with ⟨h, _⟩ | ⟨a, len, cap, _, _, _, _, h, _⟩
          · simp at h; exact ⟨_, _, _, h⟩
          · simp at h; exact ⟨_, _, _, h⟩
        have htr : DataW.Trod enc Tryd.prog W 0 (fun _ => true) true 27 (V i) (D i) (Pl i) := by
          obtain ⟨a1, n1, c1, e⟩ := hv
          exact ⟨n, by rw [e] at h2 ⊢; simpa [Value.cells] using h2⟩
        obtain ⟨bs, hs, hd⟩ := open_bytes hv htr
        exact ⟨bs, h1, hs, fun hw => bytes_weight hw hd⟩
      have hch : ∃ f : Nat → List UInt8, ∀ i, i < n0 → W.cell? ⟨a.block, a.off + i, none⟩ = some (V i) ∧ Sl 0 W (V i) (f i) ∧ ((DataW.weights Tryd.prog 27 (D i)).all (· ≤ reachBytes) = true → ((f i).length : Int) ≤ 140737488351232) := by
        refine ⟨fun i => if h : i < n0 then Classical.choose (each i h) else [], fun i hi => ?_⟩
        simp only [dif_pos hi]
        exact Classical.choose_spec (each i hi)
      obtain ⟨f, hf⟩ := hch
      have hlen : ((List.range n0).map f).length = n0 := by simp
      refine ⟨(List.range n0).map f, ⟨some a, m, by rw [hlen], by rw [hlen]; exact hl, fun _ => ⟨a.block, a.off, congrArg some hplain, ?_⟩⟩, fun hw => ?_⟩
      · intro i hi
        rw [hlen] at hi
        obtain ⟨h1, h2, _⟩ := hf i hi
        exact ⟨V i, h1, by simpa using h2⟩
      · simp only [DataW.weights, Tryd.underlying23, List.all_cons, List.all_append, Bool.and_eq_true] at hw
        obtain ⟨hw1, hw2, _⟩ := hw
        have hw1' := of_decide_eq_true hw1
        rw [Tryd.bytesBytes, List.length_map, List.length_range] at hw1'
        refine ⟨?_, ?_⟩
        · rw [hlen]
          simp only [reachBytes] at hw1'
          omega
        · intro l hl
          obtain ⟨i, hi, rfl⟩ := List.mem_map.1 hl
          have hi' := List.mem_range.1 hi
          exact (hf i hi').2.2 (all_part hw2 (List.mem_map.2 ⟨i, List.mem_range.2 hi', rfl⟩))
end Go.Proofs.YtkfjkfpodkbkaaaDoor

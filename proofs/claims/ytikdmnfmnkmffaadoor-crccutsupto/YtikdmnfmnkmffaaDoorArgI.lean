/- A slice of ints among the arguments: its ints, as a list. -/
import Derived.Test.YtikdmnfmnkmffaaDoorArgB
import Derived.Test.YtikdmnfmnkmffaaDoorCuts
set_option linter.unusedVariables false
namespace Go.Proofs.YtikdmnfmnkmffaaDoor
open Go Go.RowKit Go.ChangeShapes Go.WideShapes

theorem Tryd.cellsInt : Tryd.prog.cellsOf 3 = 1 := by kernel_rfl
theorem Tryd.bytesInt : Tryd.prog.bytesOf 3 = 8 := by kernel_rfl
theorem Tryd.readableInts : Tryd.prog.readableRec 31 = true := by kernel_rfl

theorem open_kinds {H : Type} {enc : TypeId × Value → H} {W : World} {v : Value} {d : DataW H} {p : List MemPlace} (hv : ∃ a n c, v = .slice a n c)
    (h : DataW.Trod enc Tryd.prog W 0 (fun _ => true) true 31 v d p) :
    ∃ zs, InR W v zs ∧ ((d = .nil ∧ zs = []) ∨ ∃ elems spare, d = .slice elems spare ∧ elems.length = zs.length) := by
  obtain ⟨a0, n0, c0, rfl⟩ := hv
  obtain ⟨fuel, hf⟩ := h
  rcases open_ints Tryd.underlying31 Tryd.underlying3 Tryd.cellsInt hf with ⟨hcs, hx⟩ | ⟨a, len', cap', zs, hcs, _, hl, hm, hz, hx, hcell, hwz⟩
  · simp [Value.cells] at hcs
    obtain ⟨rfl, rfl, rfl⟩ := hcs
    simp only [Prod.mk.injEq] at hx
    exact ⟨[], ⟨none, 0, rfl, fun h => absurd rfl h⟩, .inl ⟨hx.1, rfl⟩⟩
  · simp [Value.cells] at hcs
    obtain ⟨rfl, rfl, rfl⟩ := hcs
    simp only [Prod.mk.injEq] at hx
    simp only [if_true] at hz
    have hlen : (zs.take n0).length = n0 := by simp; omega
    refine ⟨zs.take n0, ⟨some a, c0, by rw [hlen], fun hne => ?_⟩, .inr ⟨_, _, hx.1, by simp [lits]⟩⟩
    have hn0 : 0 < n0 := by rw [← hlen]; exact List.length_pos_iff.2 hne
    have hc0 := hcell 0 (by omega)
    have ha : a = ⟨a.block, a.off, none⟩ := by
      have : a.add 0 = a := by simp [Addr.add]
      rw [this] at hc0
      exact addr_plain hc0
    refine ⟨a.block, a.off, congrArg some ha, ?_⟩
    intro i hi
    rw [hlen] at hi
    have hc := hcell i (by omega)
    rw [ha, Addr.add_lit] at hc
    rw [hc]
    have hzi : i < zs.length := by omega
    have e1 : zs.getD i 0 = zs[i] := by simp [List.getD, hzi]
    simp only [List.getElem_take, e1]

theorem ints_bound {H : Type} {ts : List TypeId} {ds : List (DataW H)} {j : Nat} {d : DataW H} {zs : List Int} (hsz : (DataW.weightsEach Tryd.prog ts ds).all (· ≤ reachBytes) = true) (ht : ts[j]? = some 31) (hd : ds[j]? = some d)
    (h : (d = .nil ∧ zs = []) ∨ ∃ elems spare, d = .slice elems spare ∧ elems.length = zs.length) : zs.length ≤ 140737488351232 := by
  rcases h with ⟨_, rfl⟩ | ⟨elems, spare, rfl, he⟩
  · simp
  · have := sized_slice hsz (j := j) (t := 31) (e := 3) ht hd Tryd.underlying31
    rw [Tryd.bytesInt] at this
    simp only [reachBytes] at this
    omega

end Go.Proofs.YtikdmnfmnkmffaaDoor

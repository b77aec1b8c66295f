/- A slice of bytes among the arguments: its bytes, as a list. -/
import Derived.Test.YtooclofdljampaaDoorLaid
import Derived.OpenShut
import Derived.SizedLaws
set_option linter.unusedVariables false
namespace Go.Proofs.YtooclofdljampaaDoor
open Go Go.RowKit Go.ChangeShapes Go.WideShapes

theorem Tryd.cellsU8 : Tryd.prog.cellsOf 5 = 1 := by kernel_rfl
theorem Tryd.bytesU8 : Tryd.prog.bytesOf 5 = 1 := by kernel_rfl

theorem addr_plain {w : World} {a : Addr} {v : Value} (h : w.cell? a = some v) : a = ⟨a.block, a.off, none⟩ := by
  obtain ⟨b, o, s⟩ := a
  unfold World.cell? at h
  cases s with
  | none => rfl
  | some s =>
    split at h
    · simp at h
    · cases h

theorem open_bytes {H : Type} {enc : TypeId × Value → H} {W : World} {v : Value} {d : DataW H} {p : List MemPlace} (hv : ∃ a n c, v = .slice a n c)
    (h : DataW.Trod enc Tryd.prog W 0 (fun _ => true) true 30 v d p) :
    ∃ bs, Sl 0 W v bs ∧ ((d = .nil ∧ bs = []) ∨ ∃ elems spare, d = .slice elems spare ∧ elems.length = bs.length) := by
  obtain ⟨a0, n0, c0, rfl⟩ := hv
  obtain ⟨fuel, hf⟩ := h
  rcases open_ints Tryd.underlying30 Tryd.underlying5 Tryd.cellsU8 hf with ⟨hcs, hx⟩ | ⟨a, len', cap', zs, hcs, _, hl, hm, hz, hx, hcell, hwz⟩
  · simp [Value.cells] at hcs
    obtain ⟨rfl, rfl, rfl⟩ := hcs
    simp only [Prod.mk.injEq] at hx
    exact ⟨[], Sl.nil 0 W, .inl ⟨hx.1, rfl⟩⟩
  · simp [Value.cells] at hcs
    obtain ⟨rfl, rfl, rfl⟩ := hcs
    simp only [Prod.mk.injEq] at hx
    simp only [if_true] at hz
    have hlen : ((zs.take n0).map fun z => UInt8.ofNat z.toNat).length = n0 := by simp; omega
    refine ⟨(zs.take n0).map fun z => UInt8.ofNat z.toNat, ?_, .inr ⟨_, _, hx.1, by simp [lits]⟩⟩
    refine ⟨some a, c0, by rw [hlen], by rw [hlen]; exact hl, (by intro e; cases e), fun hne => ?_⟩
    have hn0 : 0 < n0 := by rw [← hlen]; exact List.length_pos_iff.2 hne
    have hc0 := hcell 0 (by omega)
    have ha : a = ⟨a.block, a.off, none⟩ := by
      have : a.add 0 = a := by simp [Addr.add]
      rw [this] at hc0
      exact addr_plain hc0
    refine ⟨a.block, a.off, congrArg some ha, Nat.zero_le _, ?_⟩
    intro i hi
    rw [hlen] at hi
    have hc := hcell i (by omega)
    rw [ha, Addr.add_lit] at hc
    rw [hc]
    have hzi : i < zs.length := by omega
    have hb := bounds_u8 (hwz (zs[i]) (List.getElem_mem hzi))
    have e1 : zs.getD i 0 = zs[i] := by simp [List.getD, hzi]
    simp only [B, List.getElem_map, List.getElem_take, e1]
    congr 2
    rw [UInt8.toNat_ofNat']
    omega

/-- The bound that the form itself lays on a slice of bytes. -/
theorem bytes_bound {H : Type} {ts : List TypeId} {ds : List (DataW H)} {j : Nat} {d : DataW H} {bs : List UInt8} (hsz : (DataW.weightsEach Tryd.prog ts ds).all (· ≤ reachBytes) = true) (ht : ts[j]? = some 30) (hd : ds[j]? = some d)
    (h : (d = .nil ∧ bs = []) ∨ ∃ elems spare, d = .slice elems spare ∧ elems.length = bs.length) : bs.length ≤ 140737488351232 := by
  rcases h with ⟨_, rfl⟩ | ⟨elems, spare, rfl, he⟩
  · simp
  · have := sized_slice hsz (j := j) (t := 30) (e := 5) ht hd Tryd.underlying30
    rw [Tryd.bytesU8] at this
    simp only [reachBytes] at this
    omega

theorem Tryd.readable : Tryd.prog.readableRec 30 = true := by kernel_rfl
theorem Tryd.laidOut : laidOutB Tryd.prog = true := by kernel_rfl
end Go.Proofs.YtooclofdljampaaDoor

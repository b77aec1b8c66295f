/- table: the second form's bulk; a slice of strings among the arguments. Own work. -/
import Derived.Test.YtldmiieepikjnaaTbOrder
import Derived.Test.YtldmiieepikjnaaTbArg
import Derived.Deep.Strs
set_option linter.unusedVariables false
namespace Go.Proofs.Ytldmiieepikjnaa
open Go Go.RowKit Go.ChangeShapes Go.WideShapes

theorem bulk_part {H : Type} {d : DataW H} {l : List (DataW H)} (h : d ∈ l) : Rows.uptoBulk d ≤ Rows.uptoBulkAll l := by
  induction l with
  | nil => cases h
  | cons x r ih =>
    simp only [Rows.uptoBulkAll]
    rcases List.mem_cons.1 h with e | e
    · subst e; omega
    · have := ih e; omega
theorem bulk_pos {H : Type} (d : DataW H) : 1 ≤ Rows.uptoBulk d := by
  cases d with
  | lit l => cases l <;> simp [Rows.uptoBulk]
  | nil => simp [Rows.uptoBulk]
  | ptr d => simp [Rows.uptoBulk]
  | slice a b => simp [Rows.uptoBulk]
  | agg a => simp [Rows.uptoBulk]
  | iface a b => simp [Rows.uptoBulk]
  | map a => simp [Rows.uptoBulk]
  | held a => simp [Rows.uptoBulk]
theorem bulk_len {H : Type} (l : List (DataW H)) : l.length ≤ Rows.uptoBulkAll l := by
  induction l with
  | nil => simp [Rows.uptoBulkAll]
  | cons x r ih => have := bulk_pos x; simp only [Rows.uptoBulkAll, List.length_cons]; omega

theorem Try.readableStrsT : Try.prog.readableRec 73 = true := by kernel_rfl
set_option maxRecDepth 20000 in
theorem open_strT {H : Type} {enc : TypeId × Value → H} {W : World} {v : Value} {d : DataW H} {p : List MemPlace} (hv : ∃ a n c, v = .slice a n c)
    (h : DataW.Trod enc Try.prog W 0 (fun _ => true) true 73 v d p) :
    ∃ ks, StrT W v ks ∧ ks.length ≤ Rows.uptoBulk d ∧ ∀ k ∈ ks, k.size ≤ Rows.uptoBulk d := by
  obtain ⟨a0, n0, c0, rfl⟩ := hv
  obtain ⟨fuel, hf⟩ := h
  rcases Go.Deep.open_strs Try.underlying73 Try.underlying9 Try.cellsStrT hf with ⟨hcs, hx⟩ | ⟨a, len, cap, m, Sx, hcs, _, hl, hm, hm2, hx, hel⟩
  · simp [Value.cells] at hcs
    obtain ⟨rfl, rfl, rfl⟩ := hcs
    exact ⟨[], ⟨none, 0, rfl, fun h => absurd rfl h⟩, by simp, fun p hp => by cases hp⟩
  · simp [Value.cells] at hcs
    obtain ⟨rfl, rfl, rfl⟩ := hcs
    simp only [if_true] at hm2
    subst hm2
    simp only [Prod.mk.injEq] at hx
    obtain ⟨rfl, _⟩ := hx
    have hlen : ((List.range n0).map Sx).length = n0 := by simp
    refine ⟨(List.range n0).map Sx, ⟨some a, m, by rw [hlen], fun hne => ?_⟩, ?_, ?_⟩
    · have h0 : 0 < n0 := by rw [← hlen]; exact List.length_pos_iff.2 hne
      have hp := addr_plainT (hel 0 (by omega)).1
      simp only [Addr.add] at hp
      refine ⟨a.block, a.off, congrArg some ?_, fun i hi => ?_⟩
      · obtain ⟨x, y, z⟩ := a
        simp at hp
        simp [hp]
      · rw [hlen] at hi
        have h1 := (hel i (by omega)).1
        obtain ⟨x, y, z⟩ := a
        simp at hp
        subst hp
        rw [Addr.add_lit] at h1
        simpa using h1
    · simp only [Rows.uptoBulk]
      have := bulk_len ((List.range n0).map fun i => (DataW.lit (.string (Sx i).data.toList) : DataW H))
      simp at this ⊢
      omega
    · intro k hk
      obtain ⟨i, hi, rfl⟩ := List.mem_map.1 hk
      have h1 : Rows.uptoBulk (DataW.lit (.string (Sx i).data.toList) : DataW H) ≤ Rows.uptoBulkAll ((List.range n0).map fun i => (DataW.lit (.string (Sx i).data.toList) : DataW H)) := bulk_part (List.mem_map.2 ⟨i, hi, rfl⟩)
      simp only [Rows.uptoBulk] at h1 ⊢
      have h2 : (Sx i).size = (Sx i).data.toList.length := rfl
      omega
end Go.Proofs.Ytldmiieepikjnaa

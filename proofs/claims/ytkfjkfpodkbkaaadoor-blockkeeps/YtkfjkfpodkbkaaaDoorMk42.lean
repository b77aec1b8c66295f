/- Merged: BkCutN, BkFront. -/
import Derived.Test.YtkfjkfpodkbkaaaDoorMk14
import Derived.Test.YtkfjkfpodkbkaaaDoorMk41
set_option linter.unusedVariables false
namespace Go.Proofs.YtkfjkfpodkbkaaaDoor
open Go

/-- Each of the first groups may be encoded where it stands; each of the others too. -/
theorem Fits.take : ∀ {first : Nat} {gs : List (List Rec)} (k : Nat), Fits first gs → Fits first (gs.take k)
  | _, _, 0, _ => trivial
  | _, [], k + 1, _ => trivial
  | first, g :: gs, k + 1, h => ⟨h.1, Fits.take k h.2⟩
theorem Fits.get : ∀ {first : Nat} {gs : List (List Rec)} (k : Nat) (hk : k < gs.length), Fits first gs → FitB (first + cntB (gs.take k)) gs[k]
  | _, [], k, hk, _ => by simp at hk
  | first, g :: gs, 0, _, h => by
    have : cntB ((g :: gs).take 0) = 0 := rfl
    rw [this]; exact h.1
  | first, g :: gs, k + 1, hk, h => by
    have e : cntB ((g :: gs).take (k + 1)) = g.length + cntB (gs.take k) := by simp [cntB]
    have := Fits.get (first := first + g.length) k (by simpa using hk) h.2
    rw [e, ← Nat.add_assoc]
    exact this
theorem pkB_append : ∀ (first : Nat) (a b : List (List Rec)), pkB first (a ++ b) = pkB first a ++ pkB (first + cntB a) b
  | first, [], b => by simp [pkB, cntB]
  | first, g :: a, b => by
    have e : cntB (g :: a) = g.length + cntB a := by simp [cntB]
    rw [List.cons_append, pkB, pkB, pkB_append, e, List.append_assoc, Nat.add_assoc]
theorem pkB_take {first : Nat} {gs : List (List Rec)} (h : Fits first gs) (k : Nat) (hk : k ≤ gs.length) : (pkB first gs).take (512 * k) = pkB first (gs.take k) ∧ (pkB first gs).drop (512 * k) = pkB (first + cntB (gs.take k)) (gs.drop k) := by
  have hl : (pkB first (gs.take k)).length = 512 * k := by rw [pkB_length _ _ (h.take k), List.length_take]; omega
  have e : pkB first gs = pkB first (gs.take k) ++ pkB (first + cntB (gs.take k)) (gs.drop k) := by rw [← pkB_append, List.take_append_drop]
  constructor
  · rw [e, List.take_left' hl]
  · rw [e, List.drop_left' hl]
/-- Block k of what is packed. -/
theorem pkB_block {first : Nat} {gs : List (List Rec)} (h : Fits first gs) (k : Nat) (hk : k < gs.length) : ((pkB first gs).drop (512 * k)).take 512 = blkB (first + cntB (gs.take k)) gs[k] := by
  rw [(pkB_take h k (by omega)).2, List.drop_eq_getElem_cons hk, pkB]
  exact List.take_left' (blkB_length (Fits.get k hk h).room)
theorem flat_take {gs : List (List Rec)} {L : List Rec} (h : gs.flatten = L) (k : Nat) : (gs.take k).flatten = L.take (cntB (gs.take k)) ∧ cntB (gs.take k) ≤ L.length := by
  have e : gs.flatten = (gs.take k).flatten ++ (gs.drop k).flatten := by rw [← List.flatten_append, List.take_append_drop]
  constructor
  · rw [← h, e]
    exact (List.take_left' rfl).symm
  · rw [← h, e, List.length_append]; exact Nat.le_add_right _ _
theorem cnt_next (gs : List (List Rec)) (k : Nat) (hk : k < gs.length) : cntB (gs.take (k + 1)) = cntB (gs.take k) + gs[k].length := by
  unfold cntB
  rw [List.take_succ_eq_append_getElem hk, List.flatten_append, List.length_append]
  simp
theorem full_get : ∀ {gs : List (List Rec)} (k : Nat) (hk : k + 1 < gs.length), FullB gs → ∃ r g', gs[k + 1] = r :: g' ∧ 494 < (bodyB (gs[k]'(by omega))).length + 2 + r.length
  | [], k, hk, _ => by simp at hk
  | [_], k, hk, _ => by simp at hk
  | g :: (r :: g') :: gs, 0, _, h => ⟨r, g', rfl, h.1⟩
  | g :: (r :: g') :: gs, k + 1, hk, h => full_get (gs := (r :: g') :: gs) k (by simpa using hk) h.2
/-- Behind block k the next record, if there is one, doesn't fit into it. -/
theorem cuts_next {gs : List (List Rec)} {L : List Rec} (hfl : gs.flatten = L) (hf : FullB gs) (hne : ∀ g ∈ gs, g ≠ []) (k : Nat) (hk : k < gs.length) (hlt : cntB (gs.take (k + 1)) < L.length) :
    494 < (bodyB gs[k]).length + 2 + (L[cntB (gs.take (k + 1))]'hlt).length := by
  have hk1 : k + 1 < gs.length := by
    apply Classical.byContradiction
    intro h
    have e : gs.take (k + 1) = gs := List.take_of_length_le (by omega)
    rw [e] at hlt
    unfold cntB at hlt
    rw [hfl] at hlt
    exact Nat.lt_irrefl _ hlt
  obtain ⟨r, g', e1, h1⟩ := full_get k hk1 hf
  have e : L = (gs.take (k + 1)).flatten ++ (r :: g' ++ (gs.drop (k + 2)).flatten) := by
    have e0 : gs.flatten = (gs.take (k + 1)).flatten ++ (gs.drop (k + 1)).flatten := by rw [← List.flatten_append, List.take_append_drop]
    rw [← hfl, e0, List.drop_eq_getElem_cons hk1, List.flatten_cons, e1]
  have e2 : L[cntB (gs.take (k + 1))]'hlt = r := by
    have h2 : L[cntB (gs.take (k + 1))]? = some r := by
      rw [e]
      unfold cntB
      rw [List.getElem?_append_right (Nat.le_refl _), Nat.sub_self]
      rfl
    rw [List.getElem?_eq_getElem hlt] at h2
    exact Option.some.inj h2
  rw [e2]
  exact h1
theorem cuts_ne : ∀ (n : Nat) (rs : List Rec), (∀ r ∈ rs, r.length ≤ 200) → ∀ g ∈ cutsB n rs, g ≠ []
  | 0, rs, _, g, hg => by simp [cutsB] at hg
  | n + 1, rs, h, g, hg => by
    rw [cutsB] at hg
    split at hg
    · simp at hg
    · rename_i hne
      have hp := fitN_some h hne
      have hl : 0 < rs.length := List.length_pos_iff.2 hne
      rcases List.mem_cons.1 hg with rfl | hg
      · intro e
        have := congrArg List.length e
        rw [List.length_take, List.length_nil] at this
        omega
      · exact cuts_ne n _ (fun r hr => h r (List.mem_of_mem_drop hr)) g hg

/-- Blocks, and behind them something that isn't the block that is due. -/
theorem scan_stop (bad : Nat → Bool) {first : Nat} {gs : List (List Rec)} (h : Fits first gs) (hb : ∀ j, j < gs.length → bad j = false) (junk : List UInt8)
    (hj : bad gs.length = true ∨ junk.length < 512 ∨ (∃ e, decB (junk.take 512) = .error e) ∨ ∃ f rs, decB (junk.take 512) = .ok (f, rs) ∧ f ≠ first + cntB gs) (m : Nat) (hm : (pkB first gs ++ junk).length / 512 = m) :
    scanB bad m (pkB first gs ++ junk) 0 first = (gs.flatten, gs.length) := by
  have hl : (pkB first gs).length = 512 * gs.length := pkB_length _ _ h
  have hm2 : m = gs.length + junk.length / 512 := by rw [← hm, List.length_append, hl]; omega
  rw [hm2, scan_front bad gs _ junk 0 first h (fun j _ hj => hb j (by omega))]
  have hz : scanB bad (junk.length / 512) junk (0 + gs.length) (first + cntB gs) = ([], 0) := by
    cases hq : junk.length / 512 with
    | zero => rfl
    | succ q =>
      rw [scanB, Nat.zero_add]
      rcases hj with hj | hj | ⟨e, hj⟩ | ⟨f, rs, hj, hne⟩
      · rw [if_pos (.inr hj)]
      · rw [if_pos (.inl hj)]
      · split
        · rfl
        · rw [hj]
      · split
        · rfl
        · rw [hj]
          show (if f = first + cntB gs then _ else _) = _
          rw [if_neg hne]
  rw [hz, List.append_nil]; rfl
end Go.Proofs.YtkfjkfpodkbkaaaDoor

set_option linter.unusedVariables false
set_option linter.unusedSimpArgs false
namespace Go.Proofs.YtkfjkfpodkbkaaaDoor
open Go Go.RowKit

theorem pk_parts {first : Nat} {L : List Rec} (h1 : NumOk first L.length) (h2 : anyLong L = false) : ∃ gs, packB first L = pkB first gs ∧ Fits first gs ∧ gs.flatten = L ∧ FullB gs ∧ (∀ g ∈ gs, g ≠ []) ∧ gs.length ≤ L.length := by
  have h200 := anyLong_false h2
  refine ⟨cutsB L.length L, rfl, cuts_fit _ _ _ h200 h1.2.1 (by have := h1.1; have := h1.2.2; omega), cuts_flat _ _ h200 (Nat.le_refl _), cuts_full _ _ h200 (Nat.le_refl _), cuts_ne _ _ h200, ?_⟩
  have hne := cuts_ne L.length L h200
  have hfl := cuts_flat L.length L h200 (Nat.le_refl _)
  have : ∀ gs : List (List Rec), (∀ g ∈ gs, g ≠ []) → gs.length ≤ gs.flatten.length := by
    intro gs
    induction gs with
    | nil => intro _; exact Nat.le_refl _
    | cons g gs ih =>
      intro h
      have h1 := ih (fun x hx => h x (by simp [hx]))
      have h2 := List.length_pos_iff.2 (h g (by simp))
      rw [List.length_cons, List.flatten_cons, List.length_append]; omega
  have h3 := this _ hne
  rw [hfl] at h3
  exact h3

theorem ints3 (w : World) (a b c : Int) : SlI (w.alloc (.cells #[.int .i64 a, .int .i64 b, .int .i64 c] 3)) (.slice (some ⟨w.heap.size, 0, none⟩) 3 3) [a, b, c] := by
  refine ⟨_, _, rfl, Nat.le_refl _, (by intro h; cases h), fun _ => ⟨_, _, rfl, fun i hi => ?_⟩⟩
  rw [cell_of_row _ _ _ _ _ _ (heap_alloc_new _ _)]
  match i, hi with
  | 0, _ => rfl
  | 1, _ => rfl
  | 2, _ => rfl

end Go.Proofs.YtkfjkfpodkbkaaaDoor

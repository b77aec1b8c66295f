/- Merged: BkEnc. -/
import Derived.Test.YtkfjkfpodkbkaaaDoorMk28
import Derived.Test.YtkfjkfpodkbkaaaDoorMk29
set_option linter.unusedVariables false
set_option linter.unusedSimpArgs false
namespace Go.Proofs.YtkfjkfpodkbkaaaDoor
open Go Go.RowKit

/-- The variables of the errors that block answers, and where their errors lie. -/
abbrev blkErrs : List Nat := [0, 1, 2, 3, 4]
def GlS (w : World) (ad : Nat → Addr) : Prop := ∀ g ∈ blkErrs, Gl w g (ad g)
theorem GlS.up {w w' : World} {ad : Nat → Addr} (h : GlS w ad) (u : Up w w') : GlS w' ad := fun g hg => (h g hg).up u
abbrev eArg (ad : Nat → Addr) : Value := E (ad 0)
abbrev eLong (ad : Nat → Addr) : Value := E (ad 1)
abbrev eShort (ad : Nat → Addr) : Value := E (ad 2)
abbrev eForm (ad : Nat → Addr) : Value := E (ad 3)
abbrev eSum (ad : Nat → Addr) : Value := E (ad 4)

theorem anyLong_false {L : List (List UInt8)} (h : anyLong L = false) : ∀ r ∈ L, r.length ≤ 200 := by
  intro r hr
  have := List.any_eq_false.1 h r hr
  simp at this
  omega
theorem bodyB_take_le (L : List Rec) (k : Nat) : (bodyB (L.take k)).length ≤ (bodyB L).length := by
  have := congrArg List.length (congrArg bodyB (List.take_append_drop k L))
  rw [bodyB_append, List.length_append] at this
  omega
theorem fitN_all (L : List Rec) : fitN 0 L < L.length ↔ 494 < (bodyB L).length := by
  have hle := fitN_le 0 L
  constructor
  · intro h
    have h1 := fitN_full 0 L h
    have h2 := bodyB_take_le L (fitN 0 L + 1)
    rw [List.take_succ_eq_append_getElem h, bodyB_snoc_length] at h2
    omega
  · intro h
    apply Classical.byContradiction
    intro hn
    have h1 := fitN_room 0 L (by omega)
    rw [List.take_of_length_le (by omega)] at h1
    omega
theorem fitB_of {first : Nat} {L : List Rec} (h1 : NumOk first L.length) (h2 : anyLong L = false) (h3 : (bodyB L).length ≤ 494) : FitB first L :=
  ⟨by rintro rfl; simp [NumOk] at h1, h1.2.1, by have := h1.1; have := h1.2.2; omega, anyLong_false h2, h3⟩

theorem Encode_arg (first : Nat) (v : Value) (L : List (List UInt8)) (w : World) (ad : Nat → Addr) (hg : GlS w ad) (hf : first < 18446744073709551616) (hv : Rw w v L) (hn : L.length ≤ 140737488355328) (h : ¬ NumOk first L.length) :
    Calls Tryd.prog 14 #[.int .u64 (first : Int), v] w fun e w' => e = .returned (.tuple #[.slice none 0 0, eArg ad]) ∧ Up w w' := by
  have hc := (hg _ (by simp : (0 : Nat) ∈ blkErrs)).cell
  obtain ⟨ao, cap, rfl, _⟩ := hv
  have hnum := numbersHold_any first L.length hf (by omega) w
  rw [decide_eq_false h] at hnum
  clear h
  go_enter Tryd.func14, Tryd.ntmps14
  go_wp2_with fail
  refine hnum.mono ?_
  rintro e w1 ⟨rfl, rfl⟩
  clear hnum
  go_wp2
  go_quiet (fail)
  go_wp2
  go_ret2
  exact ⟨rfl, up_drewN _ _⟩

theorem Encode_long (first : Nat) (v : Value) (L : List (List UInt8)) (w : World) (ad : Nat → Addr) (hg : GlS w ad) (hf : first < 18446744073709551616) (hv : Rw w v L) (hn : L.length ≤ 140737488355328) (h : NumOk first L.length) (h2 : anyLong L = true ∨ 494 < (bodyB L).length) :
    Calls Tryd.prog 14 #[.int .u64 (first : Int), v] w fun e w' => e = .returned (.tuple #[.slice none 0 0, eLong ad]) ∧ Up w w' := by
  have hc := (hg _ (by simp : (1 : Nat) ∈ blkErrs)).cell
  have hnum := numbersHold_any first L.length hf (by omega) w
  rw [decide_eq_true h] at hnum
  have hlong := anyTooLong_any v L w hv hn
  by_cases ha : anyLong L = true
  · rw [ha] at hlong
    obtain ⟨ao, cap, rfl, _⟩ := hv
    clear h h2 ha
    go_enter Tryd.func14, Tryd.ntmps14
    go_wp2_with fail
    refine hnum.mono ?_
    rintro e w1 ⟨rfl, rfl⟩
    clear hnum
    go_wp2_with fail
    refine hlong.mono ?_
    rintro e w1 ⟨rfl, rfl⟩
    clear hlong
    go_wp2
    go_quiet (fail)
    go_wp2
    go_ret2
    exact ⟨rfl, up_drewN _ _⟩
  · have ha' : anyLong L = false := by simpa using ha
    have hfit := fitting_any v L w hv hn (anyLong_false ha')
    have hlt : fitN 0 L < L.length := (fitN_all L).2 (h2.resolve_left ha)
    rw [ha'] at hlong
    obtain ⟨ao, cap, rfl, _⟩ := hv
    obtain ⟨K, hK⟩ : ∃ K, fitN 0 L = K := ⟨_, rfl⟩
    obtain ⟨N, hN⟩ : ∃ N, L.length = N := ⟨_, rfl⟩
    rw [hK] at hlt hfit
    rw [hN] at hlt hfit hlong hn hnum ⊢
    clear h h2 ha ha' hK hN
    go_enter Tryd.func14, Tryd.ntmps14
    go_wp2_with fail
    refine hnum.mono ?_
    rintro e w1 ⟨rfl, rfl⟩
    clear hnum
    go_wp2_with fail
    refine hlong.mono ?_
    rintro e w1 ⟨rfl, rfl⟩
    clear hlong
    go_wp2_with fail
    refine hfit.mono ?_
    rintro e w1 ⟨rfl, rfl⟩
    clear hfit
    go_wp2
    go_quiet (fail)
    go_wp2
    go_ret2
    exact ⟨rfl, up_drewN _ _⟩

theorem Encode_ok (first : Nat) (v : Value) (L : List (List UInt8)) (w : World) (ht : Tb w) (hv : Rw w v L) (h : FitB first L) :
    Calls Tryd.prog 14 #[.int .u64 (first : Int), v] w fun e w' => ∃ v', e = .returned (.tuple #[v', .nilIface]) ∧ Own w' 5 w.heap.size v' (blkB first L) ∧ Up w w' := by
  have hcnt := bodyB_count L
  have hroom := h.room
  have hn : L.length ≤ 140737488355328 := by omega
  have hl1 : 0 < L.length := List.length_pos_iff.2 h.one
  have hnum := numbersHold_any first L.length (by have := h.top; omega) (by omega) w
  rw [decide_eq_true (show NumOk first L.length from ⟨hl1, h.low, by have := h.top; omega, by have := h.top; omega⟩)] at hnum
  have ha' : anyLong L = false := List.any_eq_false.2 fun r hr => by have := h.long r hr; simp; omega
  have hlong := anyTooLong_any v L w hv hn
  have hfit := fitting_any v L w hv hn h.long
  have hK : fitN 0 L = L.length := by
    have := fitN_le 0 L
    have := fitN_all L
    omega
  rw [hK] at hfit
  rw [ha'] at hlong
  have hbuild := build_any first v L w ht (by have := h.top; omega) hv hn h.long hroom
  obtain ⟨ao, cap, rfl, _⟩ := hv
  obtain ⟨N, hN⟩ : ∃ N, L.length = N := ⟨_, rfl⟩
  rw [hN] at hfit hlong hn hnum hbuild ⊢
  clear h ha' hN hK hcnt hroom hl1
  go_enter Tryd.func14, Tryd.ntmps14
  go_wp2_with fail
  refine hnum.mono ?_
  rintro e w1 ⟨rfl, rfl⟩
  clear hnum
  go_wp2_with fail
  refine hlong.mono ?_
  rintro e w1 ⟨rfl, rfl⟩
  clear hlong
  go_wp2_with fail
  refine hfit.mono ?_
  rintro e w1 ⟨rfl, rfl⟩
  clear hfit
  go_wp2_with fail
  refine hbuild.mono ?_
  rintro e w2 ⟨v', rfl, ho, hu⟩
  clear hbuild
  go_wp2
  go_ret2
  exact ⟨_, rfl, ho, hu⟩

/-- What Encode answers: the error, or the block. -/
def encE (ad : Nat → Addr) (first : Nat) (L : List Rec) : Value := if NumOk first L.length then (if anyLong L = true ∨ 494 < (bodyB L).length then eLong ad else .nilIface) else eArg ad
def encR (first : Nat) (L : List Rec) : List UInt8 := if NumOk first L.length ∧ ¬ (anyLong L = true ∨ 494 < (bodyB L).length) then blkB first L else []
theorem Encode_any (first : Nat) (v : Value) (L : List (List UInt8)) (w : World) (ad : Nat → Addr) (ht : Tb w) (hg : GlS w ad) (hf : first < 18446744073709551616) (hv : Rw w v L) (hn : L.length ≤ 140737488355328) :
    Calls Tryd.prog 14 #[.int .u64 (first : Int), v] w fun e w' => ∃ v', e = .returned (.tuple #[v', encE ad first L]) ∧ Own w' 5 w.heap.size v' (encR first L) ∧ Up w w' := by
  by_cases h1 : NumOk first L.length
  · by_cases h2 : anyLong L = true ∨ 494 < (bodyB L).length
    · simp only [encE, encR, if_pos h1, if_pos h2, h1, h2, not_true_eq_false, and_false, if_false]
      refine (Encode_long first v L w ad hg hf hv hn h1 h2).mono ?_
      rintro e w' ⟨rfl, hu⟩
      exact ⟨_, rfl, Own.nil _ _ _, hu⟩
    · have hF : FitB first L := fitB_of h1 (by simpa using fun h => h2 (.inl h)) (by omega)
      simp only [encE, encR, if_pos h1, if_neg h2]
      rw [if_pos ⟨h1, h2⟩]
      exact Encode_ok first v L w ht hv hF
  · simp only [encE, encR, if_neg h1, h1, false_and, if_false]
    refine (Encode_arg first v L w ad hg hf hv hn h1).mono ?_
    rintro e w' ⟨rfl, hu⟩
    exact ⟨_, rfl, Own.nil _ _ _, hu⟩
end Go.Proofs.YtkfjkfpodkbkaaaDoor

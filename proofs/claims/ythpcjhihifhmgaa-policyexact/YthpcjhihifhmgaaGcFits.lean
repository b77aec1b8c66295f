/- gcra: the reference's fits and Admit. -/
import Derived.Test.YthpcjhihifhmgaaGcRef
import Derived.Test.YthpcjhihifhmgaaGcS2
import Derived.Deep.DeepCutAuto
set_option linter.unusedVariables false
namespace Go.Proofs.Ythpcjhihifhmgaa
open Go Go.RowKit

theorem rfits_zero (gap slack tat now n : Nat) (h : n = 0 ∨ gap = 0) (w : World) : Calls Try.prog 49 #[V gap, V slack, V tat, V now, V n] w fun e w' => e = .returned (.bool false) ∧ Up w w' := by
  by_cases hn : n = 0
  · subst hn
    clear h
    go_enter Try.func49, Try.ntmps49
    go_wp2
    go_ret
    exact ⟨rfl, Up.refl _⟩
  · obtain rfl : gap = 0 := by omega
    have hz := ne_int n hn
    clear h hn
    go_enter Try.func49, Try.ntmps49
    go_wp2
    go_ret
    exact ⟨rfl, Up.refl _⟩

/-- A box with a number of 128 bits of the reference's. -/
theorem s2_new {w w' : World} (h : Up w w') (N : Nat) (t : TypeId) : S2 w w'.heap.size N (w'.alloc (.cells #[V (hiN N), V (loN N)] t)) :=
  ⟨by rw [cell_of_row _ _ _ _ _ _ (heap_alloc_new _ _)]; rfl, by rw [cell_of_row _ _ _ _ _ _ (heap_alloc_new _ _)]; rfl, h.trans (Up.alloc _ _)⟩

/-- Blocks from B on are new since w0. -/
theorem from_up {B : Nat} {w0 w w' : World} (h : Below B w0 w) (e : B = w0.heap.size) (u : Up w w') : Below B w0 w' := h.trans (u.mono (by rw [e]; exact h.size))
theorem from_al {B : Nat} {w0 w : World} (h : Below B w0 w) (e : B = w0.heap.size) (o : Obj) : Below B w0 (w.alloc o) := h.alloc (by rw [e]; exact h.size) o
theorem from_alup {B : Nat} {w0 w w' : World} {o : Obj} (h : Below B w0 w) (e : B = w0.heap.size) (u : Up (w.alloc o) w') : Below B w0 w' := from_up (from_al h e o) e u

/-- A box that was made behind a draw. -/
theorem al_cell {w w' : World} {a0 a1 : Value} {t : TypeId} (u : Up (w.drew.alloc (.cells #[a0, a1] t)) w') :
    w'.cell? ⟨w.heap.size, 0, none⟩ = some a0 ∧ w'.cell? ⟨w.heap.size, 1, none⟩ = some a1 ∧ (∀ o, w'.frozen? ⟨w.heap.size, o, none⟩ = false) ∧ w.heap.size < w'.heap.size := by
  have hc := bcell u
  have hz : w.heap.size < (w.drew.alloc (.cells #[a0, a1] t)).heap.size := by simp
  refine ⟨?_, ?_, ?_, Nat.lt_of_lt_of_le hz u.size⟩
  · rw [hc.1 _ _ hz]; exact cell_of_row _ _ _ _ _ _ (heap_alloc_new w.drew _)
  · rw [hc.1 _ _ hz]; exact cell_of_row _ _ _ _ _ _ (heap_alloc_new w.drew _)
  · intro o
    rw [hc.2 _ _ hz]
    exact World.frozen?_alloc_new (w := w.drew) _ _ _

/-- The same with no draw ahead. -/
theorem al_cell' {w w' : World} {a0 a1 : Value} {t : TypeId} (u : Up (w.alloc (.cells #[a0, a1] t)) w') :
    w'.cell? ⟨w.heap.size, 0, none⟩ = some a0 ∧ w'.cell? ⟨w.heap.size, 1, none⟩ = some a1 ∧ (∀ o, w'.frozen? ⟨w.heap.size, o, none⟩ = false) ∧ w.heap.size < w'.heap.size := by
  have hc := bcell u
  have hz : w.heap.size < (w.alloc (.cells #[a0, a1] t)).heap.size := by simp
  refine ⟨?_, ?_, ?_, Nat.lt_of_lt_of_le hz u.size⟩
  · rw [hc.1 _ _ hz]; exact cell_of_row _ _ _ _ _ _ (heap_alloc_new w _)
  · rw [hc.1 _ _ hz]; exact cell_of_row _ _ _ _ _ _ (heap_alloc_new w _)
  · intro o
    rw [hc.2 _ _ hz]
    exact World.frozen?_alloc_new (w := w) _ _ _

/-- A number is written into a box of the call's own. -/
theorem s2_store {w w' : World} {k N : Nat} {u0 u1 : Value} (h : Up w w') (hk : w.heap.size ≤ k) (c0 : w'.cell? ⟨k, 0, none⟩ = some u0) (c1 : w'.cell? ⟨k, 1, none⟩ = some u1) :
    S2 w k N ((w'.setCell ⟨k, 0, none⟩ (V (hiN N))).setCell ⟨k, 1, none⟩ (V (loN N))) := by
  refine ⟨?_, ?_, (h.setCell hk _).setCell hk _⟩
  · rw [World.cell?_setCell_other _ _ _ _ (by simp)]; exact World.cell?_setCell_same _ _ _ c0
  · exact World.cell?_setCell_same _ _ _ (by rw [World.cell?_setCell_other _ _ _ _ (by simp)]; exact c1)

abbrev RCall (f : Nat) (args : Array Value) (v : Value) : Prop := ∀ w, Calls Try.prog f args w fun e w' => e = .returned v ∧ Up w w'

set_option maxHeartbeats 6400000 in
theorem rfits_walk (gap slack tat now n m b P L T Q X : Nat) (o1 o2 : Bool) (zn : ((n : Int) == 0) = false) (zg : ((gap : Int) == 0) = false)
    (kl : ∀ w, Calls Try.prog 52 #[V tat, V now] w fun e w' => e = .returned (V b) ∧ w' = w)
    (ko : RCall 51 #[V b] (Wd b))
    (hm : IntKind.u64.wrap ((n : Int) - 1) = (m : Int))
    (k1 : RCall 53 #[V m, V gap] (Wd P))
    (k2 : RCall 50 #[Wd b, Wd P] (Wd L))
    (k3 : RCall 51 #[V now] (Wd now)) (k4 : RCall 51 #[V slack] (Wd slack))
    (k5 : RCall 50 #[Wd now, Wd slack] (Wd T)) (k6 : RCall 69 #[Wd L, Wd T] (.bool o1))
    (k7 : RCall 53 #[V n, V gap] (Wd Q)) (k8 : RCall 50 #[Wd b, Wd Q] (Wd X))
    (k9 : RCall 51 #[.int .u64 18446744073709551615] (.agg #[.int .u64 0, .int .u64 18446744073709551615]))
    (k10 : RCall 69 #[Wd X, .agg #[.int .u64 0, .int .u64 18446744073709551615]] (.bool o2)) (w : World) :
    Calls Try.prog 49 #[V gap, V slack, V tat, V now, V n] w fun e w' => e = .returned (.bool (!o1 && !o2)) ∧ Up w w' := by
  go_enter Try.func49, Try.ntmps49
  go_wp2_with fail
  refine (kl _).mono ?_
  rintro e w1 ⟨rfl, hw1⟩
  obtain rfl : w = w1 := hw1.symm
  go_wp2_with fail
  refine (ko _).mono ?_
  rintro e w2 ⟨rfl, u2⟩
  go_wp2_with fail
  have hs3 := s2_new u2 b 72
  generalize w2.heap.size = g at *
  generalize w2.alloc (.cells #[V (hiN b), V (loN b)] 72) = w3 at *
  clear u2 kl ko
  go_cut [12] (fun s12 wx => ∃ k, s12 = .pointer (some ⟨k, 0, none⟩) ∧ S2 w k L wx ∧ S2 w g b wx)
  case first =>
    clear k3 k4 k5 k6 k7 k8 k9 k10
    have hB : ∃ B, B = w3.heap.size := ⟨_, rfl⟩
    obtain ⟨B, eB⟩ := hB
    have hwB : w.heap.size ≤ B := by rw [eB]; exact hs3.2.2.size
    have fup : ∀ {w' : World}, Below B w3 w' → Up w w' := fun h => Below.trans hs3.2.2 (h.mono hwB)
    have sof : ∀ {w' : World}, Below B w3 w' → w'.cell? ⟨g, 0, none⟩ = some (V (hiN b)) ∧ w'.cell? ⟨g, 1, none⟩ = some (V (loN b)) ∧ Below B w3 w' := fun h =>
      ⟨by rw [h.cell (p := ⟨g, 0, none⟩) (by rw [eB]; exact World.block_lt_of_cell? w3 _ hs3.1)]; exact hs3.1, by rw [h.cell (p := ⟨g, 1, none⟩) (by rw [eB]; exact World.block_lt_of_cell? w3 _ hs3.2.1)]; exact hs3.2.1, h⟩
    have sg : ∀ {w' : World}, Below B w3 w' → S2 w g b w' := fun h => ⟨(sof h).1, (sof h).2.1, fup h⟩
    have hs := sof ((Below.refl B w3).drew)
    go_region_held3 (fun w' => w'.cell? ⟨g, 0, none⟩ = some (V (hiN b)) ∧ w'.cell? ⟨g, 1, none⟩ = some (V (loN b)) ∧ Below B w3 w') (first | exact hs | exact sof (from_al hs.2.2 eB _) | exact sof ((hs.2.2.setCell (by simp only; omega) _).setCell (by simp only; omega) _))
      (first
      | (go_at_call 53; refine (k1 _).mono ?_; rintro e w4 ⟨rfl, u4⟩; (first | (replace hs := sof (from_up hs.2.2 eB u4)) | (have p4 := al_cell u4; obtain ⟨p40, p41, p4f, p4z⟩ := p4; replace hs := sof (from_alup hs.2.2 eB u4))); have b4 : B ≤ w4.heap.size := (by rw [eB]; exact hs.2.2.size))
      | (go_at_call 50; refine (k2 _).mono ?_; rintro e w5 ⟨rfl, u5⟩; obtain ⟨hc5, hf5⟩ := bcell u5; (first | (replace hs := sof (from_up hs.2.2 eB u5)) | (have p5 := al_cell' u5; obtain ⟨p50, p51, p5f, p5z⟩ := p5; replace hs := sof (from_alup hs.2.2 eB u5)))))
    · go_wp2_with fail
      go_meet
      case rel => exact ⟨_, rfl, s2_new (fup hs.2.2) L _, sg (from_al hs.2.2 eB _)⟩
    · go_wp2_with fail
      go_meet
      case rel => exact ⟨_, rfl, s2_store (fup hs.2.2) (by omega) p50 p51, sg ((hs.2.2.setCell (by simp only; omega) _).setCell (by simp only; omega) _)⟩
    · go_wp2_with fail
      go_meet
      case rel => exact ⟨_, rfl, s2_store (fup hs.2.2) (by omega) (by rw [hc5 _ _ p4z]; exact p40) (by rw [hc5 _ _ p4z]; exact p41), sg ((hs.2.2.setCell (by simp only; omega) _).setCell (by simp only; omega) _)⟩
  case rest =>
    obtain ⟨k, rfl, hL, hb⟩ := hcut
    clear k1 k2 hm hs3
    go_wp2_with fail
    have hs : wc.drew.cell? ⟨k, 0, none⟩ = some (V (hiN L)) ∧ wc.drew.cell? ⟨k, 1, none⟩ = some (V (loN L)) ∧ S2 w g b wc.drew := ⟨hL.1, hL.2.1, s2_grow hb (Up.drew _)⟩
    clear hL hb
    have gro : ∀ {w' w'' : World}, (w'.cell? ⟨k, 0, none⟩ = some (V (hiN L)) ∧ w'.cell? ⟨k, 1, none⟩ = some (V (loN L)) ∧ S2 w g b w') → Up w' w'' → (w''.cell? ⟨k, 0, none⟩ = some (V (hiN L)) ∧ w''.cell? ⟨k, 1, none⟩ = some (V (loN L)) ∧ S2 w g b w'') := fun h hu => by
      have h2 := s2_grow (w := w) ⟨h.1, h.2.1, h.2.2.2.2⟩ hu
      exact ⟨h2.1, h2.2.1, s2_grow h.2.2 hu⟩
    go_region_held3 (fun w' => w'.cell? ⟨k, 0, none⟩ = some (V (hiN L)) ∧ w'.cell? ⟨k, 1, none⟩ = some (V (loN L)) ∧ S2 w g b w') (exact hs)
      (first
      | (go_at_call_of 51 now; refine (k3 _).mono ?_; rintro e w6 ⟨rfl, u6⟩; replace hs := gro hs u6)
      | (go_at_call_of 51 slack; refine (k4 _).mono ?_; rintro e w7 ⟨rfl, u7⟩; replace hs := gro hs u7)
      | (go_at_call 50; refine (k5 _).mono ?_; rintro e w8 ⟨rfl, u8⟩; replace hs := gro hs u8)
      | (go_at_call 69; refine (k6 _).mono ?_; rintro e w9 ⟨rfl, u9⟩; replace hs := gro hs u9))
    clear k3 k4 k5 k6
    have hg := hs.2.2
    clear hs gro
    cases o1
    · go_wp2_with fail
      have hs : S2 w g b _ := s2_grow hg (Up.drew _)
      clear hg
      go_region_held3 (fun w' => w'.cell? ⟨g, 0, none⟩ = some (V (hiN b)) ∧ w'.cell? ⟨g, 1, none⟩ = some (V (loN b)) ∧ Up w w') (exact hs)
        (first
        | (go_at_call 53; refine (k7 _).mono ?_; rintro e w6 ⟨rfl, u6⟩; replace hs := s2_grow hs u6)
        | (go_at_call 50; refine (k8 _).mono ?_; rintro e w7 ⟨rfl, u7⟩; replace hs := s2_grow hs u7)
        | (go_at_call 51; refine (k9 _).mono ?_; rintro e w8 ⟨rfl, u8⟩; replace hs := s2_grow hs u8)
        | (go_at_call 69; refine (k10 _).mono ?_; rintro e wA ⟨rfl, uA⟩; replace hs := s2_grow hs uA))
      all_goals (go_wp2; go_ret; exact ⟨rfl, hs.2.2⟩)
    · go_wp2
      go_ret
      exact ⟨rfl, hg.2.2⟩

theorem rfits_any (gap slack tat now n : Nat) (hg : N64 gap) (hs : N64 slack) (ht : N64 tat) (hw : N64 now) (hn : N64 n) (w : World) :
    Calls Try.prog 49 #[V gap, V slack, V tat, V now, V n] w fun e w' => e = .returned (.bool (decide (GFits gap slack tat now n))) ∧ Up w w' := by
  by_cases h : n = 0 ∨ gap = 0
  · rw [decide_eq_false (fun hf => by have := hf.1; have := hf.2.1; omega)]
    exact rfits_zero gap slack tat now n h w
  · have hb := base_lt tat now ht hw
    have hN := base_sum_lt gap (gBase tat now) n hg hb hn
    have hp := pred_mul n gap (by omega)
    have e : decide (GFits gap slack tat now n) = (!decide (now + slack < gBase tat now + (n - 1) * gap) && !decide (18446744073709551615 < gBase tat now + n * gap)) := by
      by_cases h1 : now + slack < gBase tat now + (n - 1) * gap
      · rw [decide_eq_true h1, decide_eq_false (fun hf => by have := hf.2.2.1; omega)]; rfl
      · by_cases h2 : 18446744073709551615 < gBase tat now + n * gap
        · rw [decide_eq_false h1, decide_eq_true h2, decide_eq_false (fun hf => by have := hf.2.2.2; omega)]; rfl
        · have hf : GFits gap slack tat now n := ⟨by omega, by omega, by omega, by omega⟩
          rw [decide_eq_false h1, decide_eq_false h2, decide_eq_true hf]; rfl
    rw [e]
    exact rfits_walk gap slack tat now n (n - 1) (gBase tat now) ((n - 1) * gap) (gBase tat now + (n - 1) * gap) (now + slack) (n * gap) (gBase tat now + n * gap) _ _ (ne_int n (by omega)) (ne_int gap (by omega))
      (rlater_any tat now) (rof_any _ hb) (by rw [IntKind.wrap_u64]; unfold N64 at hn; omega)
      (rtimes_any (n - 1) gap (by unfold N64 at *; omega) hg) (rplus_any _ _ (by unfold N128 at *; omega)) (rof_any now hw) (rof_any slack hs) (rplus_any _ _ (by unfold N64 N128 at *; omega))
      (rabove_any _ _) (rtimes_any n gap hn hg) (rplus_any _ _ (by unfold N128 at *; omega)) (fun w => rof_any 18446744073709551615 (by unfold N64; omega) w) (rabove_any _ 18446744073709551615) w

set_option maxHeartbeats 1600000 in
theorem radmit_any (gap slack tat now n : Nat) (hg : N64 gap) (hs : N64 slack) (ht : N64 tat) (hw : N64 now) (hn : N64 n) (w : World) :
    Calls Try.prog 37 #[V gap, V slack, V tat, V now, V n] w fun e w' => e = .returned (.tuple #[V (gTat gap slack tat now n), .bool (decide (GFits gap slack tat now n))]) ∧ Up w w' := by
  have k1 := rfits_any gap slack tat now n hg hs ht hw hn
  by_cases hf : GFits gap slack tat now n
  · have e1 : gTat gap slack tat now n = gBase tat now + n * gap := if_pos hf
    have hl := hf.2.2.2
    rw [e1, decide_eq_true hf]
    rw [decide_eq_true hf] at k1
    have hb := base_lt tat now ht hw
    have k2 := rlater_any tat now
    have k3 := rof_any (gBase tat now) hb
    have k4 := rtimes_any n gap hn hg
    have k5 := rplus_any (gBase tat now) (n * gap) (by unfold N128; omega)
    have e2 : loN (gBase tat now + n * gap) = gBase tat now + n * gap := by unfold loN; omega
    obtain ⟨b, hbb⟩ : ∃ b, gBase tat now = b := ⟨_, rfl⟩
    obtain ⟨P, hP⟩ : ∃ P, n * gap = P := ⟨_, rfl⟩
    rw [hbb] at k2 k3
    rw [hP] at k4
    rw [hbb, hP] at k5 e2
    rw [hbb, hP]
    obtain ⟨S, hS⟩ : ∃ S, b + P = S := ⟨_, rfl⟩
    rw [hS] at k5 e2 ⊢
    clear hf e1 hl hb hbb hP hS hg hs ht hw hn
    go_enter Try.func37, Try.ntmps37
    go_wp2_with fail
    refine (k1 _).mono ?_
    rintro e w1 ⟨rfl, u1⟩
    go_wp2_with fail
    refine (k2 _).mono ?_
    rintro e w2 ⟨rfl, rfl⟩
    go_wp2_with fail
    refine (k3 _).mono ?_
    rintro e w3 ⟨rfl, u3⟩
    go_wp2_with fail
    refine (k4 _).mono ?_
    rintro e w4 ⟨rfl, u4⟩
    go_wp2_with fail
    refine (k5 _).mono ?_
    rintro e w5 ⟨rfl, u5⟩
    clear k1 k2 k3 k4 k5
    go_wp2
    go_ret2
    exact ⟨rfl, u1.trans (u3.trans (u4.trans (u5.trans (Up.alloc _ _))))⟩
  · have e1 : gTat gap slack tat now n = tat := if_neg hf
    rw [e1, decide_eq_false hf]
    rw [decide_eq_false hf] at k1
    clear hf e1 hg hs ht hw hn
    go_enter Try.func37, Try.ntmps37
    go_wp2_with fail
    refine (k1 _).mono ?_
    rintro e w1 ⟨rfl, u1⟩
    go_wp2
    go_ret2
    exact ⟨rfl, u1⟩
end Go.Proofs.Ythpcjhihifhmgaa

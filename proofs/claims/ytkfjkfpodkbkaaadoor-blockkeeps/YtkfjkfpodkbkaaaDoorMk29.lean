/- Merged: BkFew. -/
import Derived.Test.YtkfjkfpodkbkaaaDoorMk19
set_option linter.unusedVariables false
set_option linter.unusedSimpArgs false
namespace Go.Proofs.YtkfjkfpodkbkaaaDoor
open Go Go.RowKit

/-- So many records from the number first on have numbers. -/
abbrev NumOk (first k : Nat) : Prop := 0 < k ∧ 0 < first ∧ first ≤ 4611686018427387904 ∧ k - 1 ≤ 4611686018427387904 - first

set_option maxHeartbeats 400000 in
theorem numbersHold_any (first k : Nat) (hf : first < 18446744073709551616) (hk : (k : Int) ≤ 9223372036854775807) (w : World) :
    Calls Tryd.prog 17 #[.int .u64 (first : Int), .int .i64 (k : Int)] w fun e w' => e = .returned (.bool (decide (NumOk first k))) ∧ w' = w := by
  by_cases h1 : 0 < k
  · by_cases h2 : 0 < first
    · by_cases h3 : (first : Int) ≤ 4611686018427387904
      · have e : Hid (decide (NumOk first k) = decide ((k : Int) - 1 ≤ 4611686018427387904 - (first : Int))) := by
          show _ = _
          apply decide_eq_decide.2
          unfold NumOk
          constructor
          · rintro ⟨_, _, _, h⟩; omega
          · intro h; omega
        obtain ⟨q, hq⟩ : ∃ q, decide (NumOk first k) = q := ⟨_, rfl⟩
        rw [hq] at e ⊢
        clear hq
        go_enter Tryd.func17, Tryd.ntmps17
        go_wp2
        go_ret
        rw [e.out]
        exact ⟨rfl, rfl⟩
      · have e : decide (NumOk first k) = false := by simp [NumOk]; omega
        rw [e]
        clear e
        go_enter Tryd.func17, Tryd.ntmps17
        go_wp2
        go_ret
        exact ⟨rfl, rfl⟩
    · obtain rfl : first = 0 := by omega
      have e : decide (NumOk 0 k) = false := by simp [NumOk]
      rw [e]
      clear e
      go_enter Tryd.func17, Tryd.ntmps17
      go_wp2
      go_ret
      exact ⟨rfl, rfl⟩
  · obtain rfl : k = 0 := by omega
    have e : decide (NumOk first 0) = false := by simp [NumOk]
    rw [e]
    clear e
    go_enter Tryd.func17, Tryd.ntmps17
    go_wp2
    go_ret
    exact ⟨rfl, rfl⟩

/-- Whether one of the records is too long. -/
abbrev anyLong (L : List (List UInt8)) : Bool := L.any fun r => decide (200 < r.length)

set_option maxHeartbeats 400000 in
theorem anyTooLong_any (v : Value) (L : List (List UInt8)) (w : World) (hv : Rw w v L) (hn : L.length ≤ 140737488355328) :
    Calls Tryd.prog 18 #[v] w fun e w' => e = .returned (.bool (anyLong L)) ∧ w' = w := by
  generalize hR : anyLong L = R
  have HR : Hid (anyLong L = R) := hR
  clear hR
  obtain ⟨ao, cap, rfl, hc, hx⟩ := hv
  go_enter Tryd.func18, Tryd.ntmps18
  go_wp2
  go_loopg [7] L.length (fun g i wr => w = wr ∧ ∃ k : Nat, k ≤ L.length ∧ g = L.length - k ∧ i = .int .i64 k ∧ Hid (anyLong (L.take k) = false))
  case atStart => exact ⟨rfl, 0, by omega, rfl, rfl, rfl⟩
  case round =>
    obtain ⟨rfl, k, hk, rfl, rfl, ha⟩ := hrel
    by_cases hlt : k < L.length
    · obtain ⟨b, o, rfl, hat⟩ := hx (by rintro rfl; simp at hlt)
      obtain ⟨vi, hca, hsl⟩ := hat k hlt
      have Hlt : Hid (k < L.length) := hlt
      have hst : anyLong (L.take (k + 1)) = decide (200 < (L[k]'hlt).length) := by
        have := ha.out
        unfold anyLong at this ⊢
        rw [List.take_succ_eq_append_getElem hlt, List.any_append, this]
        simp
      have hall : 200 < (L[k]'hlt).length → R = true := fun h => by
        rw [← HR.out]
        exact List.any_eq_true.2 ⟨_, List.getElem_mem hlt, by simpa using h⟩
      obtain ⟨ai, ci, rfl, _⟩ := hsl
      clear hx hat
      obtain ⟨m, hm⟩ : ∃ m, (L[k]'hlt).length = m := ⟨_, rfl⟩
      rw [hm] at hst hall hca
      clear hm
      by_cases hb : 200 < m
      · have hr := hall hb
        subst hr
        have hb' : (200 : Int) < (m : Int) := by omega
        clear hst hall hb HR ha
        go_wp2
        go_ret
        exact ⟨rfl, rfl⟩
      · have hst2 : Hid (anyLong (L.take (k + 1)) = false) := hst.trans (by simp; omega)
        have hb' : ¬ (200 : Int) < (m : Int) := by omega
        clear hst hall hb ha
        go_wp2
        go_roundg (L.length - (k + 1))
        case measure => have := Hlt.out; omega
        case rel => exact ⟨rfl, k + 1, Hlt.out, rfl, by go_num, hst2⟩
    · obtain rfl : k = L.length := by omega
      have hr : R = false := by rw [← HR.out, ← ha.out, List.take_length]
      subst hr
      clear hlt hx HR ha
      go_wp2
      go_ret
      exact ⟨rfl, rfl⟩

set_option maxHeartbeats 400000 in
theorem fitting_any (v : Value) (L : List (List UInt8)) (w : World) (hv : Rw w v L) (hn : L.length ≤ 140737488355328) (hl : ∀ r ∈ L, r.length ≤ 200) :
    Calls Tryd.prog 19 #[v] w fun e w' => e = .returned (.int .i64 (fitN 0 L : Nat)) ∧ w' = w := by
  generalize hR : fitN 0 L = R
  have HR : Hid (fitN 0 L = R) := hR
  clear hR
  obtain ⟨ao, cap, rfl, hc, hx⟩ := hv
  go_enter Tryd.func19, Tryd.ntmps19
  go_wp2
  go_loopg [3, 8] L.length (fun g l i wr => w = wr ∧ ∃ k u : Nat, k ≤ L.length ∧ g = L.length - k ∧ i = .int .i64 k ∧ l = .int .i64 ((494 : Int) - (u : Int)) ∧ (u : Int) ≤ 494 ∧ Hid (k ≤ fitN 0 L ∧ u = (bodyB (L.take k)).length))
  case atStart => exact ⟨rfl, 0, 0, by omega, rfl, rfl, rfl, by omega, by omega, rfl⟩
  case round =>
    obtain ⟨rfl, k, u, hk, rfl, rfl, rfl, hu, ha⟩ := hrel
    by_cases hlt : k < L.length
    · obtain ⟨b, o, rfl, hat⟩ := hx (by rintro rfl; simp at hlt)
      obtain ⟨vi, hca, hsl⟩ := hat k hlt
      have Hlt : Hid (k < L.length) := hlt
      have hw := fitN_walk 0 L k ha.out.1
      have hst : (bodyB (L.take (k + 1))).length = u + 2 + (L[k]'hlt).length := by
        rw [List.take_succ_eq_append_getElem hlt, bodyB_snoc_length, ← ha.out.2]
      have hm200 := hl _ (List.getElem_mem hlt)
      obtain ⟨ai, ci, rfl, _⟩ := hsl
      rw [Nat.zero_add, ← ha.out.2] at hw
      have hw2 : k < fitN 0 L ↔ u + 2 + (L[k]'hlt).length ≤ 494 := hw.trans ⟨fun ⟨_, h⟩ => h, fun h => ⟨hlt, h⟩⟩
      clear hx hat hl hw
      obtain ⟨m, hm⟩ : ∃ m, (L[k]'hlt).length = m := ⟨_, rfl⟩
      rw [hm] at hst hw2 hca hm200
      clear hm
      by_cases hb : u + 2 + m ≤ 494
      · have hnx : Hid (k + 1 ≤ fitN 0 L ∧ u + 2 + m = (bodyB (L.take (k + 1))).length) := ⟨hw2.2 hb, hst.symm⟩
        have hb' : ¬ (494 : Int) - (u : Int) - (2 + (m : Int)) < 0 := by omega
        have hb2 : ((u + 2 + m : Nat) : Int) ≤ 494 := by omega
        clear hst hw2 hb ha
        go_wp2
        go_roundg (L.length - (k + 1))
        case measure => have := Hlt.out; omega
        case rel => exact ⟨rfl, k + 1, u + 2 + m, Hlt.out, rfl, by go_num, by go_num, hb2, hnx⟩
      · have hr : R = k := by
          rw [← HR.out]
          have := ha.out.1
          omega
        subst hr
        have hb' : (494 : Int) - (u : Int) - (2 + (m : Int)) < 0 := by omega
        clear hst hw2 hb HR ha
        go_wp2
        go_ret
        exact ⟨rfl, rfl⟩
    · obtain rfl : k = L.length := by omega
      have hr : R = L.length := by
        have := ha.out.1
        have := fitN_le 0 L
        rw [← HR.out]; omega
      subst hr
      clear hlt hx HR ha
      go_wp2
      go_ret
      exact ⟨rfl, rfl⟩
/-- The slice v reads as these numbers. -/
def SlI (w : World) (v : Value) (zs : List Int) : Prop :=
  ∃ ao cap, v = .slice ao zs.length cap ∧ zs.length ≤ cap ∧ (ao = none → cap = 0) ∧ (zs ≠ [] → ∃ b o, ao = some ⟨b, o, none⟩ ∧ ∀ i (h : i < zs.length), w.cell? ⟨b, o + i, none⟩ = some (.int .i64 zs[i]))
theorem SlI.up {w w' : World} {v : Value} {zs : List Int} (h : SlI w v zs) (u : Up w w') : SlI w' v zs := by
  obtain ⟨ao, cap, rfl, hc, hn, hx⟩ := h
  refine ⟨ao, cap, rfl, hc, hn, fun hb => ?_⟩
  obtain ⟨b, o, rfl, ha⟩ := hx hb
  exact ⟨b, o, rfl, fun i hi => by rw [u.cell (World.block_lt_of_cell? w _ (ha i hi))]; exact ha i hi⟩
theorem SlI.nil (w : World) : SlI w (.slice none 0 0) [] := ⟨none, 0, rfl, Nat.le_refl _, fun _ => rfl, fun h => absurd rfl h⟩

/-- The first sector that isn't whole or is one of bad. -/
def endB (n : Nat) (bad : List Int) : Nat := bad.foldl (fun e z => if 0 ≤ z then min e z.toNat else e) n
theorem endB_snoc (n : Nat) (bad : List Int) (z : Int) : endB n (bad ++ [z]) = if 0 ≤ z then min (endB n bad) z.toNat else endB n bad := by simp [endB, List.foldl_append]
theorem endB_le (n : Nat) : ∀ bad, endB n bad ≤ n := by
  intro bad
  induction bad generalizing n with
  | nil => exact Nat.le_refl _
  | cons z r ih =>
    show endB (if 0 ≤ z then min n z.toNat else n) r ≤ n
    refine Nat.le_trans (ih _) ?_
    split <;> omega
theorem endB_bad (n : Nat) : ∀ bad i, i < endB n bad ↔ i < n ∧ (i : Int) ∉ bad ∧ ∀ z ∈ bad, 0 ≤ z → (i : Int) < z := by
  intro bad
  induction bad generalizing n with
  | nil => intro i; simp [endB]
  | cons z r ih =>
    intro i
    show i < endB (if 0 ≤ z then min n z.toNat else n) r ↔ _
    rw [ih]
    simp only [List.mem_cons, not_or, forall_eq_or_imp]
    split
    · constructor
      · rintro ⟨h1, h2, h3⟩
        exact ⟨by omega, ⟨by omega, h2⟩, fun _ => by omega, h3⟩
      · rintro ⟨h1, ⟨_, h2⟩, h4, h3⟩
        have := h4 (by assumption)
        exact ⟨by omega, h2, h3⟩
    · constructor
      · rintro ⟨h1, h2, h3⟩
        exact ⟨h1, ⟨by omega, h2⟩, fun h => by omega, h3⟩
      · rintro ⟨h1, ⟨_, h2⟩, h4, h3⟩
        exact ⟨h1, h2, h3⟩

set_option maxHeartbeats 400000 in
theorem firstUnread_any (base : Nat) (v vb : Value) (d : List UInt8) (bad : List Int) (w : World) (hs : Sl base w v d) (hb : SlI w vb bad) (hl : d.length ≤ 140737488355328) (hn : bad.length ≤ 140737488355328) (hz : ∀ z ∈ bad, -9223372036854775808 ≤ z ∧ z ≤ 9223372036854775807) :
    Calls Tryd.prog 21 #[v, vb] w fun e w' => e = .returned (.int .i64 (endB (d.length / 512) bad : Nat)) ∧ w' = w := by
  generalize hR : endB (d.length / 512) bad = R
  have HR : Hid (endB (d.length / 512) bad = R) := hR
  clear hR
  obtain ⟨ai, ci, rfl, _⟩ := hs
  obtain ⟨ao, cap, rfl, hc, _, hx⟩ := hb
  obtain ⟨N, hN⟩ : ∃ N, d.length = N := ⟨_, rfl⟩
  rw [hN] at HR hl ⊢
  clear hN
  go_enter Tryd.func21, Tryd.ntmps21
  go_wp2
  go_loopg [5, 13] bad.length (fun g e i wr => w = wr ∧ ∃ k q : Nat, k ≤ bad.length ∧ g = bad.length - k ∧ i = .int .i64 k ∧ e = .int .i64 (q : Int) ∧ (q : Int) ≤ 140737488355328 ∧ Hid (endB (N / 512) (bad.take k) = q))
  case atStart => exact ⟨rfl, 0, N / 512, by omega, rfl, rfl, by simp, by omega, rfl⟩
  case round =>
    obtain ⟨rfl, k, q, hk, rfl, rfl, rfl, hq, ha⟩ := hrel
    by_cases hlt : k < bad.length
    · obtain ⟨b, o, rfl, hat⟩ := hx (by rintro rfl; simp at hlt)
      have hca := hat k hlt
      have hzz := hz _ (List.getElem_mem hlt)
      have Hlt : Hid (k < bad.length) := hlt
      have hsn := List.take_succ_eq_append_getElem hlt
      obtain ⟨z, hzk⟩ : ∃ z, bad[k]'hlt = z := ⟨_, rfl⟩
      rw [hzk] at hsn hca hzz
      have hst := endB_snoc (N / 512) (bad.take k) z
      rw [← hsn, ha.out] at hst
      clear hx hat hz hsn
      clear hzk ha
      obtain ⟨hz0, hz1⟩ := hzz
      by_cases h0 : 0 ≤ z
      · obtain ⟨m, rfl⟩ := Int.eq_ofNat_of_zero_le h0
        rw [if_pos h0, Int.toNat_natCast] at hst
        have Hst : Hid (endB (N / 512) (bad.take (k + 1)) = min q m) := hst
        clear hst
        by_cases hmq : m < q
        · have Hst2 : Hid (endB (N / 512) (bad.take (k + 1)) = m) := Hst.out.trans (by omega)
          have g1 : ¬ (q : Int) < (m : Int) := by omega
          have g2 : (m : Int) < (q : Int) := by omega
          have g3 : ((m : Nat) : Int) ≤ 140737488355328 := by omega
          clear Hst hmq
          go_wp2
          go_roundg (bad.length - (k + 1))
          case measure => have := Hlt.out; omega
          case rel => exact ⟨rfl, k + 1, m, Hlt.out, rfl, by go_num, by go_num, g3, Hst2⟩
        · have Hst2 : Hid (endB (N / 512) (bad.take (k + 1)) = q) := Hst.out.trans (by omega)
          have g1 : ¬ (m : Int) < (q : Int) := by omega
          clear Hst hmq
          go_wp2
          go_roundg (bad.length - (k + 1))
          case measure => have := Hlt.out; omega
          case rel => exact ⟨rfl, k + 1, q, Hlt.out, rfl, by go_num, by go_num, hq, Hst2⟩
      · rw [if_neg h0] at hst
        have Hst : Hid (endB (N / 512) (bad.take (k + 1)) = q) := hst
        clear hst
        go_wp2
        go_roundg (bad.length - (k + 1))
        case measure => have := Hlt.out; omega
        case rel => exact ⟨rfl, k + 1, q, Hlt.out, rfl, by go_num, by go_num, hq, Hst⟩
    · obtain rfl : k = bad.length := by omega
      have hr : R = q := by rw [← HR.out, ← ha.out, List.take_length]
      subst hr
      clear hlt hx HR ha hz
      go_wp2
      go_ret
      exact ⟨rfl, rfl⟩
end Go.Proofs.YtkfjkfpodkbkaaaDoor

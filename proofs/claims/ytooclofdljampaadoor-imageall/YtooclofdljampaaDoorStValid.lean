/- state: Valid. Own work. -/
import Derived.Test.YtooclofdljampaaDoorStFind
import Derived.Test.YtooclofdljampaaDoorPlAny
set_option linter.unusedVariables false
set_option linter.unusedSimpArgs false
namespace Go.Proofs.YtooclofdljampaaDoor
open Go Go.RowKit

set_option maxRecDepth 20000 in
set_option maxHeartbeats 1600000 in
theorem Valid_rows (ao : Option Addr) (cap l f : Nat) (xs : List Ent) (w : World) (hx : xs ≠ [] → ∃ b o, ao = some ⟨b, o, none⟩ ∧ EntsAt w b o xs) (hl : xs.length ≤ 4096) (h1 : ¬ 4611686018427387904 < l) (q : Bool) (hq : okFrom noKey xs = q) :
    Calls Tryd.prog 15 #[.agg #[V l, V f, .slice ao xs.length cap]] w fun e w' => e = .returned (.bool q) ∧ Up w w' := by
  obtain ⟨N, hN⟩ : ∃ N, xs.length = N := ⟨_, rfl⟩
  have HN : Hid (xs.length = N) := hN
  have HX : Hid (xs ≠ [] → ∃ b o, ao = some ⟨b, o, none⟩ ∧ EntsAt w b o xs) := hx
  have HQ : Hid (okFrom noKey xs = q) := hq
  rw [hN] at hl ⊢
  have hl2 : ¬ (4096 : Int) < (N : Int) := by omega
  have h1' : ¬ (4611686018427387904 : Int) < (l : Int) := by omega
  have h1'' : ¬ (4611686018427387904 : Nat) < l := h1
  have hl3 : (N : Int) ≤ 4096 := by omega
  clear hN hx hq hl h1
  go_enter Tryd.func15, Tryd.ntmps15
  go_wp2
  go_loopg [3, 18] N (fun g s3 s18 wr => ∃ (i : Nat) (last : ByteArray), i ≤ N ∧ g = N - i ∧ s3 = .string last ∧ s18 = .int .i64 i ∧ Hid (Up w wr) ∧ Hid (okFrom noKey xs = okFrom last (xs.drop i)))
  case atStart => exact ⟨0, noKey, by omega, rfl, rfl, rfl, Up.alloc _ _, rfl⟩
  case round =>
    obtain ⟨i, last, hi, rfl, rfl, rfl, HU, HI⟩ := hrel
    by_cases hlt : i < N
    · have hm : i < xs.length := by rw [HN.out]; exact hlt
      obtain ⟨b, o, rfl, ha⟩ := HX.out (by rintro rfl; simp at hm)
      obtain ⟨c0, c1, c2, c3, c4, c5, c6, c7, c8⟩ := (ha.block fun hl => HU.out.block b hl).at _ hm
      have H2 : Hid (q = okFrom last (xs[i] :: xs.drop (i + 1))) := by
        show _ = _
        rw [← HQ.out, HI.out, List.drop_eq_getElem_cons hm]
      have HD : Hid (N - (i + 1) < N - i) := by show _ < _; omega
      generalize xs[i] = x at c0 c1 c2 c3 c4 c5 c6 c7 c8 H2
      have hc := fun u => fits_call x.2.1 x.2.2 u
      obtain ⟨S, ⟨pk, pg, ps, pq, pp⟩, lt, li, lc⟩ := x
      simp only at c0 c1 c2 c3 c4 c5 c6 c7 c8 hc
      obtain ⟨z, hz⟩ : ∃ z, pFits ⟨pk, pg, ps, pq, pp⟩ ⟨lt, li, lc⟩ = z := ⟨_, rfl⟩
      have HZ : Hid (pFits ⟨pk, pg, ps, pq, pp⟩ ⟨lt, li, lc⟩ = z) := hz
      rw [hz] at hc
      clear hz ha hm
      have B9 : Box (wr.alloc (.cells #[.string S, .int .i64 pk, V pg, V ps, V pq, V pp, V lt, V li, V lc] 50)) wr.heap.size #[.string S, .int .i64 pk, V pg, V ps, V pq, V pp, V lt, V li, V lc] := Box.new _ _ _
      have U9 : Up wr (wr.alloc (.cells #[.string S, .int .i64 pk, V pg, V ps, V pq, V pp, V lt, V li, V lc] 50)) := Up.alloc _ _
      go_upto_region 7 with fail
      generalize wr.alloc (.cells #[.string S, .int .i64 pk, V pg, V ps, V pq, V pp, V lt, V li, V lc] 50) = W9 at B9 U9 ⊢
      obtain ⟨d0, d1, d2, d3, d4, d5, d6, d7, d8⟩ := B9.c9
      have HU9 : Hid (Up w W9) := HU.out.trans U9
      have HB9 : Hid (Box W9 wr.heap.size #[.string S, .int .i64 pk, V pg, V ps, V pq, V pp, V lt, V li, V lc]) := B9
      clear c0 c1 c2 c3 c4 c5 c6 c7 c8 U9 B9
      cases hk : kl last S with
      | false =>
        have hfin : q = false := by rw [H2.out]; simp [okFrom, hk]
        subst hfin
        clear H2 HI HQ hc
        cases hk2 : kl S last with
        | true =>
          go_wp2
          go_ret
          exact ⟨rfl, HU9.out⟩
        | false =>
          have hkk : (S.toList == last.toList) = true := by rw [kl_tri hk2 hk]; simp
          go_wp2
          go_ret
          exact ⟨rfl, HU9.out⟩
      | true =>
        have hk2 : kl S last = false := kl_asymm hk
        have hkk : (S.toList == last.toList) = false := beq_ne (fun e => kl_ne hk e.symm)
        by_cases h64 : (64 : Int) < (S.size : Int)
        · have hfin : q = false := by rw [H2.out]; simp [okFrom]; omega
          subst hfin
          clear H2 HI HQ hc
          go_wp2
          go_ret
          exact ⟨rfl, HU9.out⟩
        · cases z with
          | false =>
            have hfin : q = false := by rw [H2.out]; simp [okFrom, HZ.out]
            subst hfin
            clear H2 HI HQ HZ
            go_wp2_with fail
            refine (hc _).mono ?_
            rintro e w1 ⟨rfl, u1⟩
            go_wp2
            go_ret
            exact ⟨rfl, HU9.out.trans u1⟩
          | true =>
            go_wp2_with fail
            refine (hc _).mono ?_
            rintro e w1 ⟨rfl, u1⟩
            have UU : Hid (Up w w1) := HU9.out.trans u1
            have cS : w1.cell? ⟨wr.heap.size, 0, none⟩ = some (.string S) := (HB9.out.up u1).cell 0
            go_wp2
            go_roundg (N - (i + 1))
            case measure => exact HD.out
            case rel => exact ⟨i + 1, S, by omega, rfl, rfl, by go_num, UU.out, by
              show _ = _
              rw [HQ.out, H2.out]
              simp only [okFrom, hk, HZ.out, Bool.true_and, Bool.and_true]
              rw [decide_eq_true (by omega), Bool.true_and]⟩
    · obtain rfl : i = N := by omega
      have hfin : q = true := by rw [← HQ.out, HI.out, List.drop_of_length_le (by rw [HN.out]; exact Nat.le_refl _)]; rfl
      subst hfin
      clear HI HQ HX HN
      go_wp2
      go_ret
      exact ⟨rfl, HU.out⟩

theorem Valid_any (v : Value) (l f : Nat) (xs : List Ent) (w : World) (h : SlE w v xs) (hl : xs.length ≤ 4611686018427387903) :
    Calls Tryd.prog 15 #[.agg #[V l, V f, v]] w fun e w' => e = .returned (.bool (okS ⟨l, f, xs⟩)) ∧ Up w w' := by
  obtain ⟨ao, cap, rfl, hc, hn, hx⟩ := h
  by_cases h1 : 4611686018427387904 < l
  · have e : okS ⟨l, f, xs⟩ = false := by unfold okS; rw [decide_eq_false (show ¬ l ≤ 4611686018427387904 by omega)]; rfl
    rw [e]
    obtain ⟨N, hN⟩ : ∃ N, xs.length = N := ⟨_, rfl⟩
    rw [hN]
    have h1' : (4611686018427387904 : Int) < (l : Int) := by omega
    have h1'' : (4611686018427387904 : Nat) < l := h1
    clear hx hn hc hN e h1
    go_enter Tryd.func15, Tryd.ntmps15
    go_wp2
    go_ret
    exact ⟨rfl, Up.alloc _ _⟩
  · by_cases h2 : xs.length ≤ 4096
    · have e : okS ⟨l, f, xs⟩ = okFrom noKey xs := by unfold okS; rw [decide_eq_true (show l ≤ 4611686018427387904 by omega), decide_eq_true h2]; rfl
      exact Valid_rows ao cap l f xs w hx h2 h1 _ e.symm
    · have e : okS ⟨l, f, xs⟩ = false := by unfold okS; rw [decide_eq_false h2]; simp
      rw [e]
      obtain ⟨N, hN⟩ : ∃ N, xs.length = N := ⟨_, rfl⟩
      rw [hN] at h2 hl ⊢
      have h1' : ¬ (4611686018427387904 : Int) < (l : Int) := by omega
      have h1'' : ¬ (4611686018427387904 : Nat) < l := h1
      have h2' : (4096 : Int) < (N : Int) := by omega
      have hl3 : (N : Int) ≤ 4611686018427387903 := by omega
      clear hx hn hc hN e h1 h2 hl
      go_enter Tryd.func15, Tryd.ntmps15
      go_wp2
      go_ret
      exact ⟨rfl, Up.alloc _ _⟩
end Go.Proofs.YtooclofdljampaaDoor

/- Merged: BkLaw. -/
import Derived.Test.YtkfjkfpodkbkaaaDoorMk22
import Derived.Deep.RegionWith
set_option linter.unusedVariables false
set_option linter.unusedSimpArgs false
namespace Go.Proofs.YtkfjkfpodkbkaaaDoor
open Go Go.RowKit

/-- All the records' bytes. -/
def totN (L : List Rec) : Nat := (L.map List.length).sum
theorem totN_take (L : List Rec) (k : Nat) (h : k < L.length) : totN (L.take (k + 1)) = totN (L.take k) + L[k].length := by
  unfold totN
  rw [List.take_succ_eq_append_getElem h, List.map_append, List.sum_append]
  simp
theorem totN_le (L : List Rec) (k : Nat) : totN (L.take k) ≤ totN L := by
  have := congrArg totN (List.take_append_drop k L)
  unfold totN at this ⊢
  rw [List.map_append, List.sum_append] at this
  omega
theorem totN_mem {L : List Rec} {r : Rec} (h : r ∈ L) : r.length ≤ totN L := by
  obtain ⟨i, hi, rfl⟩ := List.getElem_of_mem h
  have h1 := totN_take L i hi
  have h2 := totN_le L (i + 1)
  omega
theorem bodyB_tot (L : List Rec) : (bodyB L).length = 2 * L.length + totN L := by
  induction L with
  | nil => rfl
  | cons r L ih =>
    rw [bodyB_cons_length, ih, List.length_cons]
    simp only [totN, List.map_cons, List.sum_cons]
    omega

set_option maxHeartbeats 400000 in
theorem size_any (v : Value) (L : List (List UInt8)) (w : World) (hv : Rw w v L) (hn : L.length ≤ 140737488355328) (hl : ∀ r ∈ L, r.length ≤ 140737488355328) :
    Calls Tryd.prog 16 #[v] w fun e w' => (∃ y : Nat, e = .returned (.tuple #[.int .i64 (L.length : Int), .int .i64 (y : Int)]) ∧ ((y : Int) ≤ 16777216 ∧ y = totN L ∨ (16777216 : Int) < (y : Int) ∧ 16777216 < totN L)) ∧ w' = w := by
  obtain ⟨ao, cap, rfl, hc, hx⟩ := hv
  go_enter Tryd.func16, Tryd.ntmps16
  go_wp2
  go_loopg [4, 5] L.length (fun g b i wr => w = wr ∧ ∃ k y : Nat, k ≤ L.length ∧ g = L.length - k ∧ i = .int .i64 k ∧ b = .int .i64 (y : Int) ∧ (y : Int) ≤ 140737505132544 ∧ Hid (y = totN (L.take k)))
  case atStart => exact ⟨rfl, 0, 0, by omega, rfl, rfl, rfl, by omega, rfl⟩
  case round =>
    obtain ⟨rfl, k, y, hk, rfl, rfl, rfl, hy, HY⟩ := hrel
    by_cases hlt : k < L.length
    · by_cases hbig : (y : Int) ≤ 16777216
      · obtain ⟨b, o, rfl, hat⟩ := hx (by rintro rfl; simp at hlt)
        obtain ⟨vi, hca, hsl⟩ := hat k hlt
        have hlk := hl _ (List.getElem_mem hlt)
        have hst := totN_take L k hlt
        have Hlt : Hid (k < L.length) := hlt
        obtain ⟨ai, ci, rfl, _⟩ := hsl
        clear hx hat hl
        obtain ⟨m, hm⟩ : ∃ m, (L[k]'hlt).length = m := ⟨_, rfl⟩
        rw [hm] at hst hca hlk
        have Hst : Hid (y + m = totN (L.take (k + 1))) := by show _ = _; rw [hst, HY.out]
        have hm0 : (m : Int) ≤ 140737488355328 := by omega
        have hy2 : ((y + m : Nat) : Int) ≤ 140737505132544 := by omega
        clear hst hm HY hlk
        go_wp2
        go_roundg (L.length - (k + 1))
        case measure => have := Hlt.out; omega
        case rel => exact ⟨rfl, k + 1, y + m, Hlt.out, rfl, by go_num, by go_num, hy2, Hst⟩
      · have hfin : Hid (16777216 < totN L) := by
          have := totN_le L k
          have := HY.out
          show _ < _
          omega
        have hb : (16777216 : Int) < (y : Int) := by omega
        clear hx HY hl hc
        go_wp2
        go_ret2
        exact ⟨⟨_, rfl, .inr ⟨hb, hfin.out⟩⟩, rfl⟩
    · obtain rfl : k = L.length := by omega
      have hy2 := HY.out
      rw [List.take_length] at hy2
      have HY2 : Hid (y = totN L) := hy2
      clear hlt hx HY hy2 hl
      by_cases hbig : (y : Int) ≤ 16777216
      · go_wp2
        go_ret2
        exact ⟨⟨_, rfl, .inl ⟨hbig, HY2.out⟩⟩, rfl⟩
      · have hb : (16777216 : Int) < (y : Int) := by omega
        have hfin : Hid (16777216 < totN L) := by have := HY2.out; show _ < _; omega
        clear HY2
        go_wp2
        go_ret2
        exact ⟨⟨_, rfl, .inr ⟨hb, hfin.out⟩⟩, rfl⟩

/-- Too many records or bytes. -/
abbrev Many (L : List Rec) : Prop := 1048576 < L.length ∨ 16777216 < totN L
theorem many_any (v : Value) (L : List (List UInt8)) (w : World) (hv : Rw w v L) (hn : L.length ≤ 140737488355328) (hl : ∀ r ∈ L, r.length ≤ 140737488355328) :
    Calls Tryd.prog 5 #[v] w fun e w' => e = .returned (.bool (decide (Many L))) ∧ w' = w := by
  have hsz := size_any v L w hv hn hl
  obtain ⟨ao, cap, rfl, _⟩ := hv
  obtain ⟨N, hN⟩ : ∃ N, L.length = N := ⟨_, rfl⟩
  obtain ⟨T, hT⟩ : ∃ T, totN L = T := ⟨_, rfl⟩
  have hM : decide (Many L) = decide (1048576 < N ∨ 16777216 < T) := by unfold Many; rw [hN, hT]
  rw [hM]
  obtain ⟨q, hq⟩ : ∃ q, decide (1048576 < N ∨ 16777216 < T) = q := ⟨_, rfl⟩
  have HQ : Hid (((1048576 < N ∨ 16777216 < T) → q = true) ∧ (¬ (1048576 < N ∨ 16777216 < T) → q = false)) := ⟨fun h => by rw [← hq]; exact decide_eq_true h, fun h => by rw [← hq]; exact decide_eq_false h⟩
  rw [hq]
  rw [hN] at hn hsz ⊢
  rw [hT] at hsz
  clear hM hN hT hl hq
  by_cases h1 : (1048576 : Int) < (N : Int)
  · obtain rfl : q = true := HQ.out.1 (.inl (by omega))
    clear HQ
    go_enter Tryd.func5, Tryd.ntmps5
    go_wp2_with fail
    refine hsz.mono ?_
    rintro e w1 ⟨⟨y, rfl, hy⟩, e1⟩
    obtain rfl : w = w1 := e1.symm
    clear hsz hy
    go_wp2
    go_ret
    exact ⟨rfl, rfl⟩
  · go_enter Tryd.func5, Tryd.ntmps5
    go_wp2_with fail
    refine hsz.mono ?_
    rintro e w1 ⟨⟨y, rfl, hy⟩, e1⟩
    obtain rfl : w = w1 := e1.symm
    clear hsz
    rcases hy with ⟨h2, rfl⟩ | ⟨h2, h3⟩
    · obtain rfl : q = false := HQ.out.2 (by omega)
      have d1 : decide ((1048576 : Int) < (N : Int)) = false := decide_eq_false (by omega)
      have d2 : decide ((16777216 : Int) < (y : Int)) = false := decide_eq_false (by omega)
      clear HQ
      go_wp2
      go_ret
      exact ⟨rfl, rfl⟩
    · obtain rfl : q = true := HQ.out.1 (.inr h3)
      have d2 : decide ((16777216 : Int) < (y : Int)) = true := decide_eq_true h2
      clear HQ h3
      go_wp2
      go_ret
      exact ⟨rfl, rfl⟩

set_option maxHeartbeats 400000 in
theorem same_any (b1 b2 : Nat) (va vb : Value) (xs ys : List UInt8) (w : World) (ha : Sl b1 w va xs) (hb : Sl b2 w vb ys) (hl : xs.length ≤ 140737488355328) (hl2 : ys.length ≤ 140737488355328) :
    Calls Tryd.prog 9 #[va, vb] w fun e w' => e = .returned (.bool (decide (xs = ys))) ∧ ∃ n, w' = w.drewN n := by
  obtain ⟨q, hq⟩ : ∃ q, decide (xs = ys) = q := ⟨_, rfl⟩
  rw [hq]
  obtain ⟨ao, ac, rfl, _, _, hx⟩ := ha
  obtain ⟨bo, bc, rfl, _, _, hy⟩ := hb
  by_cases hlen : xs.length = ys.length
  · obtain ⟨N, hN⟩ : ∃ N, xs.length = N := ⟨_, rfl⟩
    have hN2 : ys.length = N := by rw [← hlen, hN]
    have HN : Hid (xs.length = N ∧ ys.length = N) := ⟨hN, hN2⟩
    have HQ : Hid (decide (xs = ys) = q) := hq
    have HX : Hid ((xs ≠ [] → ∃ b o, ao = some ⟨b, o, none⟩ ∧ b1 ≤ b ∧ At w b o xs) ∧ (ys ≠ [] → ∃ b o, bo = some ⟨b, o, none⟩ ∧ b2 ≤ b ∧ At w b o ys)) := ⟨hx, hy⟩
    rw [hN] at hl ⊢
    rw [hN2] at hl2 ⊢
    clear hlen hN hN2 hq hx hy hl2
    go_enter Tryd.func9, Tryd.ntmps9
    go_wp2
    go_loopg [5] N (fun g i wr => ∃ k : Nat, k ≤ N ∧ g = N - k ∧ i = .int .i64 k ∧ Hid ((∃ n, wr = w.drewN n) ∧ xs.take k = ys.take k))
    case atStart => exact ⟨0, by omega, rfl, rfl, ⟨0, rfl⟩, rfl⟩
    case round =>
      obtain ⟨k, hk, rfl, rfl, HR⟩ := hrel
      by_cases hlt : k < N
      · obtain ⟨hX, hY⟩ := HX.out
        have l1 : k < xs.length := by have := HN.out; omega
        have l2 : k < ys.length := by have := HN.out; omega
        obtain ⟨b, o, rfl, _, ha⟩ := hX (by rintro rfl; simp at l1)
        obtain ⟨b', o', rfl, _, hb⟩ := hY (by rintro rfl; simp at l2)
        have c1 := ha k l1
        have c2 := hb k l2
        have t1 := List.take_succ_eq_append_getElem l1
        have t2 := List.take_succ_eq_append_getElem l2
        obtain ⟨x, hxk⟩ : ∃ x, xs[k]'l1 = x := ⟨_, rfl⟩
        obtain ⟨y, hyk⟩ : ∃ y, ys[k]'l2 = y := ⟨_, rfl⟩
        obtain ⟨n0, hn0⟩ := HR.out.1
        have hup : Up w wr := by rw [hn0]; exact up_drewN _ _
        have HN0 : Hid (wr = w.drewN n0) := hn0
        clear hn0
        have HK : Hid (xs[k]? = some x ∧ ys[k]? = some y) := ⟨by rw [List.getElem?_eq_getElem l1, hxk], by rw [List.getElem?_eq_getElem l2, hyk]⟩
        rw [hxk] at c1 t1
        rw [hyk] at c2 t2
        have d1 : wr.cell? ⟨b, o + k, none⟩ = some (.int .u8 (x.toNat : Int)) := by rw [hup.cell (World.block_lt_of_cell? w _ c1)]; exact c1
        have d2 : wr.cell? ⟨b', o' + k, none⟩ = some (.int .u8 (y.toNat : Int)) := by rw [hup.cell (World.block_lt_of_cell? w _ c2)]; exact c2
        have Hlt : Hid (k < N) := hlt
        by_cases hxy : x = y
        · have Hst : Hid (xs.take (k + 1) = ys.take (k + 1)) := by show _ = _; rw [t1, t2, HR.out.2, hxy]
          subst hxy
          clear hX hY ha hb c1 c2 t1 t2 hxk hyk l1 l2 HK HR
          go_wp2_with fail
          go_quiet (fail)
          go_wp2
          go_roundg (N - (k + 1))
          case measure => have := Hlt.out; omega
          case rel => exact ⟨k + 1, Hlt.out, rfl, by go_num, ⟨n0 + nq, by rw [HN0.out, World.drewN_drewN]⟩, Hst.out⟩
        · have hfin : q = false := by
            rw [← HQ.out]
            refine decide_eq_false (fun h => hxy ?_)
            have hk := HK.out
            rw [h, hk.2] at hk
            exact (Option.some.inj hk.1).symm
          subst hfin
          have hne : ((x.toNat : Int) == (y.toNat : Int)) = false := by
            have : x.toNat ≠ y.toNat := fun h => hxy (UInt8.toNat_inj.1 h)
            simp only [beq_eq_false_iff_ne]; omega
          clear hX hY ha hb c1 c2 t1 t2 hxk hyk l1 l2 HK HR HQ hxy
          go_wp2_with fail
          go_quiet (fail)
          go_wp2
          go_ret
          exact ⟨rfl, n0 + nq, by rw [HN0.out, World.drewN_drewN]⟩
      · obtain rfl : k = N := by omega
        have hfin : q = true := by
          rw [← HQ.out]
          have h := HR.out.2
          rw [List.take_of_length_le (by rw [HN.out.1]; omega), List.take_of_length_le (by rw [HN.out.2]; omega)] at h
          exact decide_eq_true h
        subst hfin
        have hup := show Hid _ from HR.out.1
        clear HR HQ HN HX
        go_wp2
        go_ret
        exact ⟨rfl, hup.out⟩
  · have hfin : q = false := by rw [← hq]; exact decide_eq_false (fun h => hlen (by rw [h]))
    subst hfin
    obtain ⟨N, hN⟩ : ∃ N, xs.length = N := ⟨_, rfl⟩
    obtain ⟨M, hM⟩ : ∃ M, ys.length = M := ⟨_, rfl⟩
    rw [hN] at hlen hl ⊢
    rw [hM] at hlen hl2 ⊢
    have hne : ((N : Int) == (M : Int)) = false := by simp only [beq_eq_false_iff_ne]; omega
    clear hN hM hq hx hy hlen
    go_enter Tryd.func9, Tryd.ntmps9
    go_wp2
    go_ret
    exact ⟨rfl, 0, rfl⟩

theorem drew_up {w w' : World} (h : ∃ n, w' = w.drewN n) : Up w w' := by
  obtain ⟨n, rfl⟩ := h
  exact up_drewN _ _

theorem Rw.at {w : World} {v : Value} {L : List (List UInt8)} (h : Rw w v L) (k : Nat) (hk : k < L.length) : ∃ b o cap vi, v = .slice (some ⟨b, o, none⟩) L.length cap ∧ (∀ u, Up w u → u.cell? ⟨b, o + k, none⟩ = some vi ∧ Sl 0 u vi L[k]) := by
  obtain ⟨ao, cap, rfl, hc, hx⟩ := h
  obtain ⟨b, o, rfl, hat⟩ := hx (by rintro rfl; simp at hk)
  obtain ⟨vi, h1, h2⟩ := hat k hk
  exact ⟨b, o, cap, vi, rfl, fun u hu => ⟨by rw [hu.cell (World.block_lt_of_cell? w _ h1)]; exact h1, h2.up hu⟩⟩

set_option maxHeartbeats 400000 in
theorem alike_any (va vb : Value) (L M : List (List UInt8)) (w : World) (ha : Rw w va L) (hb : Rw w vb M) (hl : L.length ≤ 140737488355328) (hl2 : M.length ≤ 140737488355328) (hl3 : ∀ r ∈ L, r.length ≤ 140737488355328) (hl4 : ∀ r ∈ M, r.length ≤ 140737488355328) :
    Calls Tryd.prog 10 #[va, vb] w fun e w' => e = .returned (.bool (decide (L = M))) ∧ ∃ n, w' = w.drewN n := by
  obtain ⟨q, hq⟩ : ∃ q, decide (L = M) = q := ⟨_, rfl⟩
  rw [hq]
  obtain ⟨ao, ac, rfl⟩ : ∃ ao ac, va = .slice ao L.length ac := by obtain ⟨ao, ac, e, _⟩ := ha; exact ⟨ao, ac, e⟩
  obtain ⟨bo, bc, rfl⟩ : ∃ ao ac, vb = .slice ao M.length ac := by obtain ⟨ao, ac, e, _⟩ := hb; exact ⟨ao, ac, e⟩
  by_cases hlen : L.length = M.length
  · obtain ⟨N, hN⟩ : ∃ N, L.length = N := ⟨_, rfl⟩
    have hN2 : M.length = N := by rw [← hlen, hN]
    have HN : Hid (L.length = N ∧ M.length = N ∧ (∀ r ∈ L, r.length ≤ 140737488355328) ∧ (∀ r ∈ M, r.length ≤ 140737488355328)) := ⟨hN, hN2, hl3, hl4⟩
    have HQ : Hid (decide (L = M) = q) := hq
    rw [hN] at hl ha ⊢
    rw [hN2] at hl2 hb ⊢
    have HX : Hid (Rw w (.slice ao N ac) L ∧ Rw w (.slice bo N bc) M) := ⟨ha, hb⟩
    clear hlen hN hN2 hq ha hb hl2 hl3 hl4
    go_enter Tryd.func10, Tryd.ntmps10
    go_wp2
    go_loopg [5] N (fun g i wr => ∃ k : Nat, k ≤ N ∧ g = N - k ∧ i = .int .i64 k ∧ Hid ((∃ n, wr = w.drewN n) ∧ L.take k = M.take k))
    case atStart => exact ⟨0, by omega, rfl, rfl, ⟨0, rfl⟩, rfl⟩
    case round =>
      obtain ⟨k, hk, rfl, rfl, HR⟩ := hrel
      by_cases hlt : k < N
      · obtain ⟨hX, hY⟩ := HX.out
        have l1 : k < L.length := by have := HN.out; omega
        have l2 : k < M.length := by have := HN.out; omega
        obtain ⟨b, o, c1, x, e1, h1⟩ := hX.at k l1
        obtain ⟨b', o', c2, y, e2, h2⟩ := hY.at k l2
        simp only [Value.slice.injEq] at e1 e2
        obtain ⟨rfl, z1, rfl⟩ := e1
        obtain ⟨rfl, z2, rfl⟩ := e2
        clear z1 z2
        obtain ⟨n0, hn0⟩ := HR.out.1
        have hup : Up w wr := by rw [hn0]; exact up_drewN _ _
        have HN0 : Hid (wr = w.drewN n0) := hn0
        clear hn0
        have d1 := (h1 wr hup).1
        have d2 := (h2 wr hup).1
        have t1 := List.take_succ_eq_append_getElem l1
        have t2 := List.take_succ_eq_append_getElem l2
        have m1 : (L[k]'l1).length ≤ 140737488355328 := HN.out.2.2.1 _ (List.getElem_mem l1)
        have m2 : (M[k]'l2).length ≤ 140737488355328 := HN.out.2.2.2 _ (List.getElem_mem l2)
        have HK : Hid (L[k]? = some (L[k]'l1) ∧ M[k]? = some (M[k]'l2)) := ⟨List.getElem?_eq_getElem l1, List.getElem?_eq_getElem l2⟩
        obtain ⟨xs, hxs⟩ : ∃ xs, L[k]'l1 = xs := ⟨_, rfl⟩
        obtain ⟨ys, hys⟩ : ∃ ys, M[k]'l2 = ys := ⟨_, rfl⟩
        rw [hxs] at t1 m1 HK h1
        rw [hys] at t2 m2 HK h2
        have HS : Hid (∀ n, Calls Tryd.prog 9 #[x, y] (wr.drewN n) fun e w' => e = .returned (.bool (decide (xs = ys))) ∧ ∃ m, w' = (wr.drewN n).drewN m) := fun n =>
          same_any 0 0 x y xs ys _ (h1 _ (hup.trans (up_drewN _ _))).2 (h2 _ (hup.trans (up_drewN _ _))).2 m1 m2
        have Hlt : Hid (k < N) := hlt
        by_cases hxy : xs = ys
        · have Hst : Hid (L.take (k + 1) = M.take (k + 1)) := by show _ = _; rw [t1, t2, HR.out.2, hxy]
          rw [decide_eq_true hxy] at HS
          clear hX hY h1 h2 t1 t2 hxs hys l1 l2 HK HR m1 m2 hxy
          go_wp2_with fail
          go_quiet ((go_at_call 9; exact Calls.quiet_of (HS.out _)))
          go_wp2
          go_roundg (N - (k + 1))
          case measure => have := Hlt.out; omega
          case rel => exact ⟨k + 1, Hlt.out, rfl, by go_num, ⟨n0 + nq, by rw [HN0.out, World.drewN_drewN]⟩, Hst.out⟩
        · have hfin : q = false := by
            rw [← HQ.out]
            refine decide_eq_false (fun h => hxy ?_)
            have hk := HK.out
            rw [h, hk.2] at hk
            exact (Option.some.inj hk.1).symm
          rw [decide_eq_false hxy] at HS
          subst hfin
          clear hX hY h1 h2 t1 t2 hxs hys l1 l2 HK HR m1 m2 hxy HQ
          go_wp2_with fail
          go_quiet ((go_at_call 9; exact Calls.quiet_of (HS.out _)))
          go_wp2
          go_ret
          exact ⟨rfl, n0 + nq, by rw [HN0.out, World.drewN_drewN]⟩
      · obtain rfl : k = N := by omega
        have hfin : q = true := by
          rw [← HQ.out]
          have h := HR.out.2
          rw [List.take_of_length_le (by rw [HN.out.1]; omega), List.take_of_length_le (by rw [HN.out.2.1]; omega)] at h
          exact decide_eq_true h
        subst hfin
        have hup := show Hid _ from HR.out.1
        clear HR HQ HN HX
        go_wp2
        go_ret
        exact ⟨rfl, hup.out⟩
  · have hfin : q = false := by rw [← hq]; exact decide_eq_false (fun h => hlen (by rw [h]))
    subst hfin
    obtain ⟨N, hN⟩ : ∃ N, L.length = N := ⟨_, rfl⟩
    obtain ⟨K, hK⟩ : ∃ K, M.length = K := ⟨_, rfl⟩
    rw [hN] at hlen hl ⊢
    rw [hK] at hlen hl2 ⊢
    have hne : ((N : Int) == (K : Int)) = false := by simp only [beq_eq_false_iff_ne]; omega
    clear hN hK hq ha hb hlen hl3 hl4
    go_enter Tryd.func10, Tryd.ntmps10
    go_wp2
    go_ret
    exact ⟨rfl, 0, rfl⟩

/-- While a row is copied. -/
structure CopyR (w wr : World) (g n : Nat) (L : List Rec) (k : Nat) (vs : List Value) : Prop where
  recs : RecsO wr w.heap.size (.slice (some ⟨g, 0, none⟩) n n) (L.take k ++ List.replicate (n - k) []) vs
  up : Up w wr
  lo : w.heap.size ≤ g
theorem copy_next (L : List Rec) (n k : Nat) (hn : L.length = n) (hk : k < L.length) : (L.take k ++ List.replicate (n - k) []).set k L[k] = L.take (k + 1) ++ List.replicate (n - (k + 1)) [] := by
  rw [List.set_append_right _ _ (by simp; omega), List.length_take, Nat.min_eq_left (Nat.le_of_lt hk), Nat.sub_self, show n - k = (n - (k + 1)) + 1 by omega, List.replicate_succ, List.set_cons_zero, List.take_succ_eq_append_getElem hk, List.append_assoc]
  rfl

set_option maxHeartbeats 800000 in
theorem copied_any (v : Value) (L : List (List UInt8)) (w : World) (hv : Rw w v L) (hn : (L.length : Int) ≤ 1000000000) (hl : ∀ r ∈ L, r.length ≤ 140737488355328) :
    Calls Tryd.prog 6 #[v] w fun e w' => ∃ v' vs, e = .returned v' ∧ RecsO w' w.heap.size v' L vs ∧ Up w w' := by
  obtain ⟨ao, cap, rfl⟩ : ∃ ao ac, v = .slice ao L.length ac := by obtain ⟨ao, ac, e, _⟩ := hv; exact ⟨ao, ac, e⟩
  obtain ⟨N, hN⟩ : ∃ N, L.length = N := ⟨_, rfl⟩
  rw [hN] at hv hn ⊢
  have hmk := make_rows N (by omega)
  have H0 : Hid (CopyR w (w.alloc (.cells (madeCells #[.slice none 0 0] N) 27)) w.heap.size N L 0 (List.replicate N (.slice none 0 0))) := by
    refine ⟨?_, Up.alloc _ _, Nat.le_refl _⟩
    rw [List.take_zero, List.nil_append, Nat.sub_zero]
    exact recs_made N (by omega) w
  have HL : Hid (Rw w (.slice ao N cap) L ∧ L.length = N ∧ ∀ r ∈ L, r.length ≤ 140737488355328) := ⟨hv, hN, hl⟩
  clear hv hN hl
  obtain ⟨g0, hg0⟩ : ∃ g0, w.heap.size = g0 := ⟨_, rfl⟩
  rw [hg0] at H0
  go_enter Tryd.func6, Tryd.ntmps6
  go_wp2
  clear hmk hg0
  go_loopg [4] N (fun g i wr => ∃ (k : Nat) (vs : List Value), k ≤ N ∧ g = N - k ∧ i = .int .i64 k ∧ Hid (CopyR w wr g0 N L k vs))
  case atStart => exact ⟨0, _, by omega, rfl, rfl, H0⟩
  case round =>
    clear H0
    obtain ⟨k, vs, hk, rfl, rfl, HR⟩ := hrel
    by_cases hlt : k < N
    · obtain ⟨hrw, hN, hl⟩ := HL.out
      have l1 : k < L.length := by omega
      obtain ⟨b, o, c1, x, e1, h1⟩ := hrw.at k l1
      simp only [Value.slice.injEq] at e1
      obtain ⟨rfl, z1, rfl⟩ := e1
      clear z1
      have hup := HR.out.up
      have d1 := (h1 wr hup).1
      have d1' := (h1 (wr.alloc (.cells #[] 5)) (hup.trans (Up.alloc _ _))).1
      have hx := (h1 (wr.alloc (.cells #[] 5)) (hup.trans (Up.alloc _ _))).2
      have m1 : (L[k]'l1).length ≤ 140737488355328 := hl _ (List.getElem_mem l1)
      have hnx := copy_next L N k hN l1
      obtain ⟨xs, hxs⟩ : ∃ xs, L[k]'l1 = xs := ⟨_, rfl⟩
      rw [hxs] at m1 hx hnx
      have Hnx := show Hid _ from hnx
      have Hlt : Hid (k < N) := hlt
      clear hrw hl hnx hxs h1 l1 hN
      go_wp2_with (at_builtin; refine wpList_bytes_any _ rfl (.tmp 16) (.tmp 20) rfl wr.heap.size 0 _ x [] xs rfl rfl ?h1 hx ?h2 ?h3 ?_)
      case h1 => exact own_built wr [] (by simp)
      case h2 => simp
      case h3 => simp; omega
      intro v' w' ho' hg'
      have hu' : Up wr w' := grown_up (Up.alloc wr (.cells #[] 5)) hg' (fun x hx => by cases hx; exact Nat.le_refl _)
      have hR' := HR.out.recs.up hu'
      have hvl : vs.length = N := by rw [hR'.len]; simp; have := HL.out.2.1; omega
      obtain ⟨g', cap', e', hcell⟩ := hR'.row.cell k (by omega)
      simp only [Value.slice.injEq, Option.some.injEq, Addr.mk.injEq] at e'
      obtain ⟨⟨rfl, _⟩, _, _⟩ := e'
      have hfz : w'.frozen? ⟨g0, k, none⟩ = false := by
        obtain ⟨_, ⟨e, _⟩ | ⟨g2, cap2, cur2, e, _, hg2, _⟩⟩ := hR'.row
        · cases e
        · cases e; simp [World.frozen?, hg2]
      have hR5 := hR'.set k (by omega) ho' hup.size (fun x hx => ?_)
      · rw [Hnx.out] at hR5
        have H5 : Hid (CopyR w (w'.setCell ⟨g0, k, none⟩ v') g0 N L (k + 1) (vs.set k v')) := ⟨hR5, Below.setCell (hup.trans hu') HR.out.lo _, HR.out.lo⟩
        obtain ⟨av, cv, hv'⟩ := ho'.sl.slice
        obtain ⟨old, hold⟩ : ∃ old, vs[k]'(by omega) = old := ⟨_, rfl⟩
        rw [hold] at hcell
        clear hR5 hR' hx ho' hg' hu' hup HR d1 d1' Hnx hold hvl
        subst hv'
        go_wp2
        go_roundg (N - (k + 1))
        case measure => have := Hlt.out; omega
        case rel => exact ⟨k + 1, _, Hlt.out, rfl, by go_num, H5⟩
      · exact (HR.out.recs.recs.mem hx).2.1
    · obtain rfl : k = N := by omega
      have hR := HR.out
      have hrec := hR.recs
      rw [Nat.sub_self, List.replicate_zero, List.append_nil, List.take_of_length_le (by rw [HL.out.2.1]; omega)] at hrec
      have hup := hR.up
      clear hR HR HL hlt
      go_wp2
      go_ret
      exact ⟨_, _, rfl, hrec, hup⟩
end Go.Proofs.YtkfjkfpodkbkaaaDoor

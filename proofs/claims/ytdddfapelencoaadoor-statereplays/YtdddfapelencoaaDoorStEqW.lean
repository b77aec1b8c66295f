/- state: the library's Equal over entries; Equal. Own work. -/
import Derived.Test.YtdddfapelencoaaDoorLkE
set_option linter.unusedVariables false
set_option linter.unusedSimpArgs false
namespace Go.Proofs.YtdddfapelencoaaDoor
open Go Go.RowKit

theorem drewS_up {w w' : World} (h : ∃ n, w' = w.drewN n) : Up w w' := by
  obtain ⟨n, rfl⟩ := h
  exact up_drewN _ _

set_option maxRecDepth 20000 in
set_option maxHeartbeats 1600000 in
theorem rowsEqual_any (va vb : Value) (xs ys : List Ent) (w : World) (ha : SlE w va xs) (hb : SlE w vb ys) (hl : xs.length ≤ 140737488355328) (hl2 : ys.length ≤ 140737488355328) :
    Calls Tryd.prog 29 #[va, vb] w fun e w' => e = .returned (.bool (decide (xs = ys))) ∧ ∃ n, w' = w.drewN n := by
  obtain ⟨q, hq⟩ : ∃ q, decide (xs = ys) = q := ⟨_, rfl⟩
  rw [hq]
  obtain ⟨ao, ac, rfl, _, _, hx⟩ := ha
  obtain ⟨bo, bc, rfl, _, _, hy⟩ := hb
  by_cases hlen : xs.length = ys.length
  · obtain ⟨N, hN⟩ : ∃ N, xs.length = N := ⟨_, rfl⟩
    have hN2 : ys.length = N := by rw [← hlen, hN]
    have HN : Hid (xs.length = N ∧ ys.length = N) := ⟨hN, hN2⟩
    have HQ : Hid (decide (xs = ys) = q) := hq
    have HX : Hid ((xs ≠ [] → ∃ b o, ao = some ⟨b, o, none⟩ ∧ EntsAt w b o xs) ∧ (ys ≠ [] → ∃ b o, bo = some ⟨b, o, none⟩ ∧ EntsAt w b o ys)) := ⟨hx, hy⟩
    rw [hN] at hl ⊢
    rw [hN2] at hl2 ⊢
    clear hlen hN hN2 hq hx hy hl2
    go_enter Tryd.func29, Tryd.ntmps29
    go_wp2
    go_loopg [13] N (fun g i wr => ∃ k : Nat, k ≤ N ∧ g = N - k ∧ i = .int .i64 k ∧ Hid ((∃ n, wr = w.drewN n) ∧ xs.take k = ys.take k))
    case atStart => exact ⟨0, by omega, rfl, rfl, ⟨0, rfl⟩, rfl⟩
    case round =>
      obtain ⟨k, hk, rfl, rfl, HR⟩ := hrel
      by_cases hlt : k < N
      · obtain ⟨hX, hY⟩ := HX.out
        have l1 : k < xs.length := by have := HN.out; omega
        have l2 : k < ys.length := by have := HN.out; omega
        obtain ⟨b, o, rfl, ha⟩ := hX (by rintro rfl; simp at l1)
        obtain ⟨b', o', rfl, hb⟩ := hY (by rintro rfl; simp at l2)
        obtain ⟨n0, hn0⟩ := HR.out.1
        have hup : Up w wr := by rw [hn0]; exact up_drewN _ _
        have HN0 : Hid (wr = w.drewN n0) := hn0
        clear hn0
        obtain ⟨c0, c1, c2, c3, c4, c5, c6, c7, c8⟩ := (ha.block fun hl => hup.block b hl).at k l1
        obtain ⟨d0, d1, d2, d3, d4, d5, d6, d7, d8⟩ := (hb.block fun hl => hup.block b' hl).at k l2
        have t1 := List.take_succ_eq_append_getElem l1
        have t2 := List.take_succ_eq_append_getElem l2
        have HK : Hid (xs[k]? = some xs[k] ∧ ys[k]? = some ys[k] ∧ xs.take (k + 1) = xs.take k ++ [xs[k]] ∧ ys.take (k + 1) = ys.take k ++ [ys[k]]) := ⟨List.getElem?_eq_getElem l1, List.getElem?_eq_getElem l2, t1, t2⟩
        clear t1 t2
        generalize xs[k] = x at c0 c1 c2 c3 c4 c5 c6 c7 c8 HK
        generalize ys[k] = y at d0 d1 d2 d3 d4 d5 d6 d7 d8 HK
        have hne := fun u => ent_neq x y u
        have Hlt : Hid (k < N) := hlt
        by_cases hxy : x = y
        · have Hst : Hid (xs.take (k + 1) = ys.take (k + 1)) := by show _ = _; rw [HK.out.2.2.1, HK.out.2.2.2, HR.out.2, hxy]
          rw [show decide (¬ x = y) = false from decide_eq_false (fun h => h hxy)] at hne
          obtain ⟨S, ⟨pk, pg, ps, pq, pp⟩, lt, li, lc⟩ := x
          obtain ⟨S2, ⟨pk2, pg2, ps2, pq2, pp2⟩, lt2, li2, lc2⟩ := y
          simp only at c0 c1 c2 c3 c4 c5 c6 c7 c8 d0 d1 d2 d3 d4 d5 d6 d7 d8 hne
          clear hX hY ha hb l1 l2 HK HR hxy hup
          go_wp2_with fail
          go_quiet (fail)
          go_wp2
          go_roundg (N - (k + 1))
          case measure => have := Hlt.out; omega
          case rel => exact ⟨k + 1, Hlt.out, rfl, by go_num, ⟨n0 + nq, by rw [HN0.out, World.drewN_drewN]⟩, Hst.out⟩
        · have hfin : q = false := by
            rw [← HQ.out]
            refine decide_eq_false (fun h => hxy ?_)
            have hk := HK.out
            rw [h, hk.2.1] at hk
            exact (Option.some.inj hk.1).symm
          subst hfin
          rw [show decide (¬ x = y) = true from decide_eq_true hxy] at hne
          obtain ⟨S, ⟨pk, pg, ps, pq, pp⟩, lt, li, lc⟩ := x
          obtain ⟨S2, ⟨pk2, pg2, ps2, pq2, pp2⟩, lt2, li2, lc2⟩ := y
          simp only at c0 c1 c2 c3 c4 c5 c6 c7 c8 d0 d1 d2 d3 d4 d5 d6 d7 d8 hne
          clear hX hY ha hb l1 l2 HK HR HQ hxy hup
          go_wp2_with fail
          go_quiet (fail)
          go_wp2
          go_ret
          exact ⟨rfl, n0 + nq, by rw [HN0.out, World.drewN_drewN]⟩
      · obtain rfl : k = N := by omega
        have hfin : q = true := by
          rw [← HQ.out]
          have h := HR.out.2
          rw [List.take_of_length_le (by rw [HN.out.1]; omega), List.take_of_length_le (by rw [HN.out.2]; omega)] at h
          exact decide_eq_true h
        subst hfin
        have hup := show Hid _ from HR.out.1
        clear HR HQ HN HX
        go_wp2
        go_ret
        exact ⟨rfl, hup.out⟩
  · have hfin : q = false := by rw [← hq]; exact decide_eq_false (fun h => hlen (by rw [h]))
    subst hfin
    obtain ⟨N, hN⟩ : ∃ N, xs.length = N := ⟨_, rfl⟩
    obtain ⟨M, hM⟩ : ∃ M, ys.length = M := ⟨_, rfl⟩
    rw [hN] at hlen hl ⊢
    rw [hM] at hlen hl2 ⊢
    have hne : ((N : Int) == (M : Int)) = false := by simp only [beq_eq_false_iff_ne]; omega
    clear hN hM hq hx hy hlen
    go_enter Tryd.func29, Tryd.ntmps29
    go_wp2
    go_ret
    exact ⟨rfl, 0, rfl⟩

set_option maxRecDepth 20000 in
set_option maxHeartbeats 1600000 in
theorem Equal_any (va vb : Value) (l f l' f' : Nat) (xs ys : List Ent) (w : World) (ha : SlE w va xs) (hb : SlE w vb ys) (hl : xs.length ≤ 140737488355328) (hl2 : ys.length ≤ 140737488355328) :
    Calls Tryd.prog 11 #[.agg #[V l, V f, va], .agg #[V l', V f', vb]] w fun e w' => e = .returned (.bool (decide ((⟨l, f, xs⟩ : StV) = ⟨l', f', ys⟩))) ∧ Up w w' := by
  have HE : Hid (∀ u, Up w u → Calls Tryd.prog 29 #[va, vb] u fun e w' => e = .returned (.bool (decide (xs = ys))) ∧ ∃ n, w' = u.drewN n) := fun u uu => rowsEqual_any va vb xs ys u (ha.up uu) (hb.up uu) hl hl2
  obtain ⟨q, hq⟩ : ∃ q, decide (xs = ys) = q := ⟨_, rfl⟩
  rw [hq] at HE
  obtain ⟨a1, c1, rfl⟩ := ha.shape
  obtain ⟨a2, c2, rfl⟩ := hb.shape
  obtain ⟨N, hN⟩ : ∃ N, xs.length = N := ⟨_, rfl⟩
  obtain ⟨M, hM⟩ : ∃ M, ys.length = M := ⟨_, rfl⟩
  rw [hN] at HE ⊢
  rw [hM] at HE ⊢
  obtain ⟨r, hr⟩ : ∃ r, decide ((⟨l, f, xs⟩ : StV) = ⟨l', f', ys⟩) = r := ⟨_, rfl⟩
  rw [hr]
  have HR : Hid (r = (decide (l = l') && (decide (f = f') && q))) := by
    show _ = _
    rw [← hr, ← hq, Bool.eq_iff_iff]
    simp
  clear hN hM hr hq ha hb hl hl2
  have b0 : Box (w.alloc (.cells #[V l, V f, .slice a1 N c1] 27)) w.heap.size #[V l, V f, .slice a1 N c1] := Box.new _ _ _
  have U2 : Up w ((w.alloc (.cells #[V l, V f, .slice a1 N c1] 27)).alloc (.cells #[V l', V f', .slice a2 M c2] 27)) := (Up.alloc _ _).trans (Up.alloc _ _)
  by_cases h1 : l = l'
  · subst h1
    by_cases h2 : f = f'
    · subst h2
      have hfin : r = q := by rw [HR.out]; simp
      subst hfin
      clear HR
      go_enter Tryd.func11, Tryd.ntmps11
      go_wp2_with fail
      refine (HE.out _ U2).mono ?_
      rintro e w1 ⟨rfl, u1⟩
      have u2 := drewS_up u1
      clear u1
      go_wp2
      go_ret
      exact ⟨rfl, U2.trans u2⟩
    · have hfin : r = false := by rw [HR.out]; simp [h2]
      subst hfin
      have e2 : ((f : Int) == (f' : Int)) = false := by simp only [beq_eq_false_iff_ne]; omega
      clear HR HE
      go_enter Tryd.func11, Tryd.ntmps11
      go_wp2
      go_ret
      exact ⟨rfl, U2⟩
  · have hfin : r = false := by rw [HR.out]; simp [h1]
    subst hfin
    have e1 : ((l : Int) == (l' : Int)) = false := by simp only [beq_eq_false_iff_ne]; omega
    clear HR HE
    go_enter Tryd.func11, Tryd.ntmps11
    go_wp2
    go_ret
    exact ⟨rfl, U2⟩
end Go.Proofs.YtdddfapelencoaaDoor

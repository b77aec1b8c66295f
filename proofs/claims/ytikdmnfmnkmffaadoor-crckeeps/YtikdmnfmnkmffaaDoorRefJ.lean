/- crc: what the reference's Moved and Join answer. -/
import Derived.Test.YtikdmnfmnkmffaaDoorRefM
set_option linter.unusedVariables false
namespace Go.Proofs.YtikdmnfmnkmffaaDoor
open Go Go.RowKit

/-- Moved's array, at its block. -/
def MovA (w wr : World) (d : Array Value) : Prop := wr.heap[w.heap.size]? = some (.cells d 46 (0, 0)) ∧ Up w wr
theorem MovA.up {w wr w' : World} {d : Array Value} (h : MovA w wr d) (hu : Up wr w') : MovA w w' d := by
  have hlt : w.heap.size < wr.heap.size := (Array.getElem?_eq_some_iff.1 h.1).1
  exact ⟨by rw [hu.block _ hlt]; exact h.1, h.2.trans hu⟩
theorem MovA.set {w wr : World} {d : Array Value} (h : MovA w wr d) (k : Nat) (v : Value) : MovA w (wr.setCell ⟨w.heap.size, k, none⟩ v) (d.setIfInBounds k v) :=
  ⟨heap_setCell2 _ _ _ _ _ _ h.1, Below.setCell h.2 (Nat.le_refl _) _⟩
theorem MovA.row {w wr : World} {d d' : Array Value} (h : MovA w wr d) : MovA w (wr.setRow w.heap.size d') d' :=
  ⟨setRow_heap _ _ _ _ _ _ h.1, Below.trans h.2 ⟨rfl, rfl, rfl, by simp, fun k hk => setRow_other _ _ _ _ (by omega)⟩⟩
theorem ar_all {d : Array Value} {m : Nat → W32} (h : Ar d m) : d.all (·.oneCell') = true := by
  rw [Array.all_eq_true]
  intro i hi
  have := h.2 i (by have := h.1; omega)
  rw [Array.getElem?_eq_getElem hi] at this
  rw [Option.some.inj this]; rfl
theorem ar_next {d : Array Value} {m m' : Nat → W32} (h : Ar d m) (e : ∀ i, i < 32 → m i = m' i) : Ar d m' := ⟨h.1, fun i hi => by rw [← e i hi]; exact h.2 i hi⟩
theorem one_shl (k : Nat) (hk : k < 32) : (2 : Int) ^ k % 4294967296 = ((one k).toNat : Int) := by
  have h : ∀ k : Fin 32, (2 : Int) ^ k.val % 4294967296 = ((one k.val).toNat : Int) := by decide +kernel
  exact h ⟨k, hk⟩

set_option maxRecDepth 20000 in
set_option maxHeartbeats 1600000 in
theorem Moved_any (x : W32) (n : Int) (hn1 : n ≤ 9223372036854775807) (w : World) :
    Calls Tryd.prog 23 #[U x, .int .i64 n] w fun e w' => e = .returned (U (stpn (8 * n.toNat) x)) ∧ Up w w' := by
  generalize hR : stpn (8 * n.toNat) x = R
  have HR : Hid (stpn (8 * n.toNat) x = R) := hR
  clear hR
  go_enter Tryd.func23, Tryd.ntmps23
  go_wp2_with fail
  go_loopg [6, 7, 8] 32 (fun g i y j wr => ∃ (k : Nat) (d : Array Value), k ≤ 32 ∧ g = 32 - k ∧ i = .int .i64 k ∧ Hid (d.size = 32 ∧ ∀ j, j < k → d[j]? = some (U (stpn 8 (one j)))) ∧ Hid (MovA w wr d))
  case atStart => exact ⟨0, _, by omega, rfl, rfl, ⟨rfl, fun j hj => by omega⟩, ⟨heap_alloc_new _ _, Up.alloc _ _⟩⟩
  case round =>
    obtain ⟨k, d, hk, rfl, rfl, hd, hm⟩ := hrel
    by_cases hk32 : k = 32
    · subst hk32
      clear hk
      have hstart : Hid (∃ m, Ar d (fun i => stpn m (one i)) ∧ 8 = m) := ⟨8, hd.out, rfl⟩
      by_cases hneg : n ≤ 0
      · have hR0 : Hid (x = R) := by
          show _ = _
          rw [← HR.out, Int.toNat_of_nonpos hneg]; rfl
        have hup := hm.out.2
        clear hd hm hstart
        go_wp2
        go_loopg [0, 1] 1 (fun g a l wi => wr = wi ∧ a = U x ∧ l = .int .i64 n)
        case atStart => exact ⟨rfl, rfl, rfl⟩
        case round =>
          obtain ⟨rfl, rfl, rfl⟩ := hrel
          go_wp2
          go_ret
          exact ⟨by rw [hR0.out]; rfl, hup⟩
      · obtain ⟨N, rfl⟩ := Int.eq_ofNat_of_zero_le (show 0 ≤ n by omega)
        have hst : Hid (stpn (8 * N) x = R) := HR
        clear HR hneg
        have Hd8 : Hid (Ar d (fun i => stpn 8 (one i))) := hd.out
        clear hd hstart
        go_wp2_with fail
        go_loopg [0, 1] N (fun g a l wi => ∃ (L m : Nat) (F : W32) (d : Array Value), L = g ∧ l = .int .i64 L ∧ (L : Int) ≤ 9223372036854775807 ∧ a = U F ∧ Hid (stpn (m * L) F = R) ∧ Hid (Ar d (fun i => stpn m (one i))) ∧ Hid (MovA w wi d))
        case atStart => exact ⟨N, 8, x, d, rfl, rfl, by omega, rfl, hst, Hd8, hm⟩
        case round =>
          clear hst Hd8 hm
          obtain ⟨L, m, F, d, rfl, rfl, hL, rfl, hF, hd, hm⟩ := hrel
          by_cases h0 : L = 0
          · subst h0
            have hF0 : Hid (F = R) := hF.out
            have hup := hm.out.2
            go_wp2
            go_ret
            exact ⟨by rw [hF0.out]; rfl, hup⟩
          · have hpos : (0 : Int) < (L : Int) := by omega
            have hlt : Hid (L / 2 < L) := by show _ < _; omega
            have hdb : ((L / 2 : Nat) : Int) ≤ 9223372036854775807 := by omega
            have htw : ∀ u, Calls Tryd.prog 26 #[.agg d] u fun e w' => ∃ c', e = .returned (.agg c') ∧ Ar c' (fun i => stpn (m + m) (one i)) ∧ Up u w' := fun u => (twice_any d _ u hd.out).mono fun e w' ⟨c', h1, h2, h3⟩ => ⟨c', h1, ar_next h2 fun i hi => by rw [app_lin (stpn_lin m), ← stpn_add], h3⟩
            have Htw : Hid (∀ u, Calls Tryd.prog 26 #[.agg d] u fun e w' => ∃ c', e = .returned (.agg c') ∧ Ar c' (fun i => stpn (m + m) (one i)) ∧ Up u w') := htw
            have hdiv : (L : Int).tdiv 2 = ((L / 2 : Nat) : Int) := by rw [Int.tdiv_eq_ediv_of_nonneg (by omega)]; omega
            clear htw h0
            by_cases hodd : L % 2 = 1
            · have hap := fun u => apply_any d (fun i => stpn m (one i)) F u hd.out
              simp only [app_lin (stpn_lin m)] at hap
              have Hap : Hid (∀ u, Calls Tryd.prog 25 #[.agg d, U F] u fun e w' => e = .returned (U (stpn m F)) ∧ Up u w') := hap
              have hnx : Hid (stpn ((m + m) * (L / 2)) (stpn m F) = R) := by
                show _ = _
                rw [← stpn_add, ← hF.out]
                congr 1
                have e : L = L / 2 * 2 + 1 := by omega
                conv => rhs; rw [e]
                rw [Nat.mul_add, Nat.mul_one, ← Nat.mul_assoc, Nat.mul_comm m (L / 2), Nat.mul_comm _ 2, Nat.add_mul]
                have : m * (L / 2) = L / 2 * m := Nat.mul_comm _ _
                omega
              have hmod : (L : Int).tmod 2 = 1 := by rw [Int.tmod_eq_emod_of_nonneg (by omega)]; omega
              clear hap hodd
              go_wp2_with (refine wpList_load_row rfl 46 (.tmp 5) rfl _ rfl _ d (0, 0) _ hm.out.1 Tryd.underlying46 rfl (by rw [Tryd.info32, hd.out.1]) ?_)
              refine (Hap.out _).mono ?_
              rintro e w6 ⟨rfl, hu6⟩
              have hm6 : Hid (MovA w w6 d) := hm.out.up hu6
              go_wp2_with (refine wpList_load_row rfl 46 (.tmp 5) rfl _ rfl _ d (0, 0) _ hm6.out.1 Tryd.underlying46 rfl (by rw [Tryd.info32, hd.out.1]) ?_)
              refine (Htw.out _).mono ?_
              rintro e w7 ⟨d', rfl, hd', hu7⟩
              have hm7 : Hid (MovA w w7 d) := hm6.out.up hu7
              have Hd' : Hid (Ar d' (fun i => stpn (m + m) (one i))) := hd'
              have hm8 : Hid (MovA w (w7.setRow w.heap.size d') d') := hm7.out.row
              clear hd'
              go_wp2_with (refine wpList_store_row rfl 46 (.tmp 5) (.tmp 34) rfl _ d' rfl rfl _ d hm7.out.1 (by rw [Tryd.info32, Hd'.out.1]) (by rw [hd.out.1, Hd'.out.1]) (ar_all Hd'.out) ?_)
              go_roundg (L / 2)
              case measure => exact hlt.out
              case rel => exact ⟨L / 2, m + m, stpn m F, d', rfl, by congr 1, hdb, rfl, hnx, Hd', hm8⟩
            · have hev : L % 2 = 0 := by omega
              have hnx : Hid (stpn ((m + m) * (L / 2)) F = R) := by
                show _ = _
                rw [← hF.out]
                congr 1
                have e : L = L / 2 * 2 := by omega
                conv => rhs; rw [e]
                rw [← Nat.mul_assoc, Nat.mul_comm m (L / 2), Nat.mul_comm _ 2, Nat.add_mul]
                have : m * (L / 2) = L / 2 * m := Nat.mul_comm _ _
                omega
              have hmod : (L : Int).tmod 2 = 0 := by rw [Int.tmod_eq_emod_of_nonneg (by omega)]; omega
              clear hodd hev
              go_wp2_with (refine wpList_load_row rfl 46 (.tmp 5) rfl _ rfl _ d (0, 0) _ hm.out.1 Tryd.underlying46 rfl (by rw [Tryd.info32, hd.out.1]) ?_)
              refine (Htw.out _).mono ?_
              rintro e w7 ⟨d', rfl, hd', hu7⟩
              have hm7 : Hid (MovA w w7 d) := hm.out.up hu7
              have Hd' : Hid (Ar d' (fun i => stpn (m + m) (one i))) := hd'
              have hm8 : Hid (MovA w (w7.setRow w.heap.size d') d') := hm7.out.row
              clear hd'
              go_wp2_with (refine wpList_store_row rfl 46 (.tmp 5) (.tmp 34) rfl _ d' rfl rfl _ d hm7.out.1 (by rw [Tryd.info32, Hd'.out.1]) (by rw [hd.out.1, Hd'.out.1]) (ar_all Hd'.out) ?_)
              go_roundg (L / 2)
              case measure => exact hlt.out
              case rel => exact ⟨L / 2, m + m, F, d', rfl, by congr 1, hdb, rfl, hnx, Hd', hm8⟩
    · have hlt : k < 32 := by omega
      have Hlt : Hid (k < 32) := hlt
      have hkI : (k : Int) < 32 := by omega
      have h1 := one_shl k hlt
      clear hlt hk32 hk
      have hcf : Hid ((∃ v, wr.cell? ⟨w.heap.size, k, none⟩ = some v) ∧ wr.frozen? ⟨w.heap.size, k, none⟩ = false) := by
        refine ⟨⟨d[k]'(by rw [hd.out.1]; exact Hlt.out), ?_⟩, ?_⟩
        · rw [cell_of_row _ _ _ _ _ _ hm.out.1]; simp
        · simp [World.frozen?, hm.out.1]
      go_wp2_with fail
      go_loopg [7, 8] 8 (fun g y j wi => wr = wi ∧ ∃ t : Nat, t ≤ 8 ∧ g = 8 - t ∧ j = .int .i64 t ∧ y = U (stpn t (one k)))
      case atStart => exact ⟨rfl, 0, by omega, rfl, rfl, by rw [h1]; rfl⟩
      case round =>
        obtain ⟨rfl, t, ht, rfl, rfl, rfl⟩ := hrel
        by_cases ht8 : t = 8
        · subst ht8
          obtain ⟨⟨v0, hc0⟩, hf0⟩ := hcf.out
          have hfin : Hid (∃ d', (d'.size = 32 ∧ ∀ j, j < k + 1 → d'[j]? = some (U (stpn 8 (one j)))) ∧ MovA w (wr.setCell ⟨w.heap.size, k, none⟩ (U (stpn 8 (one k)))) d') := by
            refine ⟨_, ⟨by simpa using hd.out.1, fun j hj => ?_⟩, hm.out.set k _⟩
            rw [Array.getElem?_setIfInBounds]
            by_cases e : k = j
            · subst e; rw [if_pos rfl, if_pos (by have := hd.out.1; have := Hlt.out; omega)]
            · rw [if_neg e]; exact hd.out.2 j (by omega)
          clear ht h1
          go_wp2
          go_roundg (32 - (k + 1))
          case measure => have := Hlt.out; omega
          case rel =>
            obtain ⟨d', q1, q2⟩ := hfin.out
            exact ⟨k + 1, d', Hlt.out, rfl, by go_num, q1, q2⟩
        · have ht7 : (t : Int) < 8 := by omega
          have h4 := refStep_any (stpn t (one k)) wr
          rw [stp_stpn] at h4
          have Ht : Hid (t < 8) := by show t < 8; omega
          clear ht ht8 h1
          go_wp2_with fail
          refine h4.mono ?_
          rintro e w1 ⟨rfl, rfl⟩
          clear h4
          go_wp2
          go_roundg (8 - (t + 1))
          case measure => have := Ht.out; omega
          case rel => exact ⟨rfl, t + 1, Ht.out, rfl, by go_num, rfl⟩

theorem refJoin_any (s t : W32) (n : Int) (hn1 : n ≤ 9223372036854775807) (w : World) :
    Calls Tryd.prog 19 #[U s, U t, .int .i64 n] w fun e w' => e = .returned (U (joinC s t n.toNat)) ∧ Up w w' := by
  have hm := Moved_any s n hn1 w
  have hx := xor_u (stpn (8 * n.toNat) s) t
  have hj : Hid (joinC s t n.toNat = stpn (8 * n.toNat) s ^^^ t) := rfl
  rw [hj.out]
  clear hj
  generalize stpn (8 * n.toNat) s = A at hm hx ⊢
  generalize A ^^^ t = Z at hx ⊢
  go_enter Tryd.func19, Tryd.ntmps19
  go_wp2_with fail
  refine hm.mono ?_
  rintro e w1 ⟨rfl, hu⟩
  clear hm
  go_wp2
  go_ret
  exact ⟨rfl, hu⟩
end Go.Proofs.YtikdmnfmnkmffaaDoor

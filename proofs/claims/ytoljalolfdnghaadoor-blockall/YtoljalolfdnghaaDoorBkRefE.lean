/- block: the reference's Encode. -/
import Derived.Test.YtoljalolfdnghaaDoorBkRefA
import Derived.Test.YtoljalolfdnghaaDoorBkAwake
import Derived.Test.YtoljalolfdnghaaDoorBkTurnW
set_option linter.unusedVariables false
set_option linter.unusedSimpArgs false
namespace Go.Proofs.YtoljalolfdnghaaDoor
open Go Go.RowKit

theorem rEncode_arg (first : Nat) (v : Value) (L : List (List UInt8)) (w : World) (hf : first < 18446744073709551616) (hv : Rw w v L) (hn : L.length ≤ 140737488355328) (h : ¬ NumOk first L.length) :
    Calls Tryd.prog 25 #[.int .u64 (first : Int), v] w fun e w' => e = .returned (.tuple #[.slice none 0 0, .int .i64 1]) ∧ w' = w := by
  obtain ⟨ao, cap, rfl, _⟩ := hv
  obtain ⟨N, hN⟩ : ∃ N, L.length = N := ⟨_, rfl⟩
  rw [hN] at hn h ⊢
  clear hN
  by_cases h0 : N = 0
  · subst h0
    clear h
    go_enter Tryd.func25, Tryd.ntmps25
    go_wp2
    go_ret2
    exact ⟨rfl, rfl⟩
  · have hnum := rNumbered_any first N hf (by omega) (by omega) w
    rw [decide_eq_false h] at hnum
    have hN0 : 0 < N := by omega
    have hNi : (0 : Int) < (N : Int) := by omega
    have hN0z : ((N : Int) == 0) = false := by simp; omega
    clear h h0
    go_enter Tryd.func25, Tryd.ntmps25
    go_wp2_with fail
    refine hnum.mono ?_
    rintro e w1 ⟨rfl, e1⟩
    obtain rfl : w = w1 := e1.symm
    clear hnum
    go_wp2
    go_ret2
    exact ⟨rfl, rfl⟩

set_option maxHeartbeats 800000 in
theorem rEncode_long (first : Nat) (v : Value) (L : List (List UInt8)) (w : World) (hf : first < 18446744073709551616) (hv : Rw w v L) (hn : L.length ≤ 140737488355328) (h : NumOk first L.length) (h2 : anyLong L = true ∨ 494 < (bodyB L).length) :
    Calls Tryd.prog 25 #[.int .u64 (first : Int), v] w fun e w' => e = .returned (.tuple #[.slice none 0 0, .int .i64 4]) ∧ w' = w := by
  have H2 : Hid (anyLong L = true ∨ 494 < (bodyB L).length) := h2
  have HV : Hid (Rw w v L) := hv
  have hnum := rNumbered_any first L.length hf h.1 (by omega) w
  rw [decide_eq_true h] at hnum
  have hN0 := h.1
  obtain ⟨ao, cap, rfl, _, hx⟩ := hv
  obtain ⟨N, hN⟩ : ∃ N, L.length = N := ⟨_, rfl⟩
  have HN : Hid (L.length = N) := hN
  rw [hN] at hn hnum hN0 HV ⊢
  have hNi : (0 : Int) < (N : Int) := by omega
  have hN0z : ((N : Int) == 0) = false := by simp; omega
  clear h2 h hN
  go_enter Tryd.func25, Tryd.ntmps25
  go_wp2_with fail
  refine hnum.mono ?_
  rintro e w1 ⟨rfl, e1⟩
  obtain rfl : w = w1 := e1.symm
  clear hnum
  go_wp2
  go_loopg [6, 7] N (fun g u i wr => w = wr ∧ ∃ k p : Nat, k ≤ N ∧ g = N - k ∧ i = .int .i64 k ∧ u = .int .i64 (p : Int) ∧ (p : Int) ≤ 696 ∧ Hid (anyLong (L.take k) = false ∧ (p = (bodyB (L.take k)).length ∨ 494 < p ∧ 494 < (bodyB (L.take k)).length)))
  case atStart => exact ⟨rfl, 0, 0, by omega, rfl, rfl, rfl, by omega, rfl, .inl rfl⟩
  case round =>
    obtain ⟨rfl, k, p, hk, rfl, rfl, rfl, hp, HR⟩ := hrel
    by_cases hlt : k < N
    · have Hlt : Hid (k < N) := hlt
      have hlt' : k < L.length := by rw [HN.out]; exact hlt
      obtain ⟨b, o, rfl, hat⟩ := hx (by rintro rfl; simp at hlt')
      obtain ⟨vi, hca, hsl⟩ := hat k hlt'
      have htk := List.take_succ_eq_append_getElem hlt'
      have hst : anyLong (L.take (k + 1)) = decide (200 < (L[k]'hlt').length) := by
        have := HR.out.1
        unfold anyLong at this ⊢
        rw [htk, List.any_append, this]
        simp
      have hbl : (bodyB (L.take (k + 1))).length = (bodyB (L.take k)).length + 2 + (L[k]'hlt').length := by rw [htk, bodyB_snoc_length]
      obtain ⟨ai, ci, rfl, _⟩ := hsl
      obtain ⟨m, hm⟩ : ∃ m, (L[k]'hlt').length = m := ⟨_, rfl⟩
      rw [hm] at hst hbl hca
      clear hm htk hat hx
      have hp0 : (0 : Int) ≤ (p : Int) := by omega
      by_cases hb : (200 : Int) < (m : Int)
      · clear hst hbl HR
        go_wp2
        go_ret2
        exact ⟨rfl, rfl⟩
      · have hst2 : Hid (anyLong (L.take (k + 1)) = false) := hst.trans (by simp; omega)
        have hm0 : (0 : Int) ≤ (m : Int) := by omega
        have hbl2 : Hid ((bodyB (L.take (k + 1))).length = (bodyB (L.take k)).length + 2 + m) := hbl
        clear hst hbl
        by_cases hq : (p : Int) ≤ 494
        · go_wp2
          go_roundg (N - (k + 1))
          case measure => have := Hlt.out; omega
          case rel => exact ⟨rfl, k + 1, p + 2 + m, Hlt.out, rfl, by go_num, by go_num, by omega, hst2.out, .inl (by have := hbl2.out; have := HR.out.2; omega)⟩
        · go_wp2
          go_roundg (N - (k + 1))
          case measure => have := Hlt.out; omega
          case rel => exact ⟨rfl, k + 1, p, Hlt.out, rfl, by go_num, rfl, hp, hst2.out, .inr (by have := hbl2.out; have := HR.out.2; omega)⟩
    · obtain rfl : k = N := by omega
      have hp2 : (494 : Int) < (p : Int) := by
        have h1 := HR.out
        have h2 := H2.out
        rw [← HN.out, List.take_length] at h1
        rw [h1.1] at h2
        have := h1.2
        have := h2.resolve_left (by simp)
        omega
      clear HR H2 hx HN
      go_wp2
      go_ret2
      exact ⟨rfl, rfl⟩

/-- A cell behind what was laid over. -/
theorem ovr_set (d : List UInt8) (p : Nat) (cs : List UInt8) (c : UInt8) (h : p + cs.length < d.length) : (ovr d p cs).set (p + cs.length) c = ovr d p (cs ++ [c]) := by
  unfold ovr
  have h1 : (d.take p ++ cs).length = p + cs.length := by rw [List.length_append, List.length_take]; omega
  rw [List.set_append_right _ _ (by omega), h1, Nat.sub_self, List.drop_eq_getElem_cons h, List.set_cons_zero, List.length_append, List.length_singleton]
  simp only [List.append_assoc, List.singleton_append, Nat.add_assoc]


set_option maxRecDepth 20000 in
set_option maxHeartbeats 3200000 in
theorem rEncode_ok (first : Nat) (v : Value) (L : List (List UInt8)) (w : World) (hv : Rw w v L) (h : FitB first L) :
    Calls Tryd.prog 25 #[.int .u64 (first : Int), v] w fun e w' => ∃ v', e = .returned (.tuple #[v', .int .i64 0]) ∧ Own w' 5 w.heap.size v' (blkB first L) ∧ Up w w' := by
  have hcnt := bodyB_count L
  have hroom := h.room
  have hl1 : 0 < L.length := List.length_pos_iff.2 h.one
  have hnum := rNumbered_any first L.length (by have := h.top; omega) hl1 (by omega) w
  rw [decide_eq_true (show NumOk first L.length from ⟨hl1, h.low, by have := h.top; omega, by have := h.top; omega⟩)] at hnum
  have HV : Hid (Rw w v L ∧ FitB first L) := ⟨hv, h⟩
  have hf : first < 18446744073709551616 := by have := h.top; omega
  obtain ⟨ao, cap, hvv⟩ := hv.slice
  obtain ⟨N, hN⟩ : ∃ N, L.length = N := ⟨_, rfl⟩
  have HN : Hid (L.length = N) := hN
  rw [hN] at hnum hl1 hvv hcnt
  have hNi : (0 : Int) < (N : Int) := by omega
  have hN0z : ((N : Int) == 0) = false := by simp; omega
  have hNt : (N : Int) ≤ 247 := by omega
  have hNn : N ≤ 247 := by omega
  have hw16 : IntKind.u16.wrap (N : Int) = (N : Int) := by rw [IntKind.wrap_u16]; omega
  subst hvv
  clear hN hroom hcnt h hv
  go_enter Tryd.func25, Tryd.ntmps25
  go_wp2_with fail
  refine hnum.mono ?_
  rintro e w1 ⟨rfl, e1⟩
  obtain rfl : w = w1 := e1.symm
  clear hnum
  go_wp2
  go_loopg [6, 7] N (fun g u i wr => w = wr ∧ ∃ k p : Nat, k ≤ N ∧ g = N - k ∧ i = .int .i64 k ∧ u = .int .i64 (p : Int) ∧ (p : Int) ≤ 494 ∧ Hid (p = (bodyB (L.take k)).length))
  case atStart => exact ⟨rfl, 0, 0, by omega, rfl, rfl, rfl, by omega, rfl⟩
  case round =>
    obtain ⟨rfl, k, p, hk, rfl, rfl, rfl, hp, HR⟩ := hrel
    have hp0 : (0 : Int) ≤ (p : Int) := by omega
    by_cases hlt : k < N
    · have Hlt : Hid (k < N) := hlt
      have hlt' : k < L.length := by rw [HN.out]; exact hlt
      obtain ⟨b, o, cap', vi, e1, hat⟩ := HV.out.1.at k hlt'
      simp only [Value.slice.injEq] at e1
      obtain ⟨rfl, eN, rfl⟩ := e1
      clear eN
      obtain ⟨hca, hsl⟩ := hat w (Up.refl _)
      have htk := List.take_succ_eq_append_getElem hlt'
      have hlen : (L[k]'hlt').length ≤ 200 := HV.out.2.long _ (List.getElem_mem hlt')
      have hbl : (bodyB (L.take (k + 1))).length = (bodyB (L.take k)).length + 2 + (L[k]'hlt').length := by rw [htk, bodyB_snoc_length]
      have hle := Nat.le_trans (bodyB_take_le L (k + 1)) HV.out.2.room
      obtain ⟨ai, ci, rfl, _⟩ := hsl
      obtain ⟨m, hm⟩ : ∃ m, (L[k]'hlt').length = m := ⟨_, rfl⟩
      rw [hm] at hbl hca hlen
      have hmi : (m : Int) ≤ 200 := by omega
      have hm0 : (0 : Int) ≤ (m : Int) := by omega
      have Hst : Hid ((bodyB (L.take (k + 1))).length = p + 2 + m ∧ p + 2 + m ≤ 494) := ⟨by have := HR.out; omega, by have := HR.out; omega⟩
      clear hm htk hat hlen hle hbl HR
      go_wp2
      go_roundg (N - (k + 1))
      case measure => have := Hlt.out; omega
      case rel => exact ⟨rfl, k + 1, p + 2 + m, Hlt.out, rfl, by go_num, by go_num, by have := Hst.out.2; omega, Hst.out.1.symm⟩
    · obtain rfl : k = N := by omega
      have HN2 := HN.out
      have o0 := own_built w mag (by decide)
      have u0 : Up w (w.alloc (.cells (Bv mag).toArray 5)) := Up.alloc _ _
      have hput := rput_any w.heap.size (.slice (some ⟨w.heap.size, 0, none⟩) mag.length mag.length) mag first 8 _ o0 u0.size (by decide) (by omega) (by omega)
      clear HR hlt hk o0
      go_wp2_with fail
      refine hput.mono ?_
      rintro e w1 ⟨v1, rfl, o1, b1⟩
      clear hput
      have U1 : Up w w1 := Below.trans u0 b1
      have hput := rput_any w.heap.size v1 _ k 2 _ o1 U1.size (by simp [mag, bl_length]) (by omega) (by omega)
      clear u0 b1 o1
      go_wp2_with fail
      refine hput.mono ?_
      rintro e w2 ⟨v2, rfl, o2, b2⟩
      clear hput
      have U2 : Up w w2 := Below.trans U1 b2
      have hput := rput_any w.heap.size v2 _ 0 4 _ o2 U2.size (by simp [mag, bl_length]) (by omega) (by omega)
      clear U1 b2 o2
      go_wp2_with fail
      refine hput.mono ?_
      rintro e w3 ⟨v3, rfl, o3, b3⟩
      clear hput
      have HP : Hid (Own w3 5 w.heap.size v3 (preB first k ++ [0, 0, 0, 0]) ∧ Up w w3) := ⟨o3, Below.trans U2 b3⟩
      have HPl : Hid ((preB first k ++ [0, 0, 0, 0]).length = 18) := by show _ = _; rw [List.length_append, preB_length]; rfl
      obtain ⟨P0, hP0⟩ : ∃ P0, preB first k ++ [0, 0, 0, 0] = P0 := ⟨_, rfl⟩
      have HP0 : Hid (preB first k ++ [0, 0, 0, 0] = P0) := hP0
      rw [hP0] at HP HPl
      clear hP0 o3 b3 U2 hw16 hp hp0 HN2
      go_wp2
      go_loopg [8, 9] k (fun g s i wr => ∃ j : Nat, j ≤ k ∧ g = k - j ∧ i = .int .i64 j ∧ Hid (Own wr 5 w.heap.size s (P0 ++ bodyB (L.take j)) ∧ Up w wr))
      case atStart => exact ⟨0, by omega, rfl, rfl, by simpa [bodyB_nil] using HP.out.1, HP.out.2⟩
      case round =>
        clear HP
        obtain ⟨j, hj, rfl, rfl, HR⟩ := hrel
        by_cases hlt : j < k
        · have Hlt : Hid (j < k) := hlt
          have hlt' : j < L.length := by rw [HN.out]; exact hlt
          obtain ⟨b, o, cap', vi, e1, hat⟩ := HV.out.1.at j hlt'
          simp only [Value.slice.injEq] at e1
          obtain ⟨rfl, eN, rfl⟩ := e1
          clear eN
          have htk := List.take_succ_eq_append_getElem hlt'
          have hbk := bodyB_take_le L j
          have hrm := HV.out.2.room
          have hlen : (L[j]'hlt').length ≤ 200 := HV.out.2.long _ (List.getElem_mem hlt')
          have hstp : P0 ++ bodyB (L.take (j + 1)) = P0 ++ bodyB (L.take j) ++ bl 2 (L[j]'hlt').length ++ L[j]'hlt' := by
            rw [htk, bodyB_append, bodyB_cons, bodyB_nil, recB, List.append_nil]
            simp only [List.append_assoc]
          obtain ⟨r, hr⟩ : ∃ r, L[j]'hlt' = r := ⟨_, rfl⟩
          rw [hr] at hlen hstp hat
          obtain ⟨m, hm⟩ : ∃ m, r.length = m := ⟨_, rfl⟩
          have HM : Hid (r.length = m) := hm
          rw [hm] at hstp hlen
          have hca := (hat _ HR.out.2).1
          obtain ⟨ai, ci, rfl⟩ := (hat _ HR.out.2).2.slice
          rw [hm] at hca hat
          have HAT : Hid (∀ u, Up w u → u.cell? ⟨b, o + j, none⟩ = some (.slice ai m ci) ∧ Sl 0 u (.slice ai m ci) r) := hat
          have hpl : (P0 ++ bodyB (L.take j)).length ≤ 600 := by rw [List.length_append, HPl.out]; omega
          have HST : Hid (P0 ++ bodyB (L.take (j + 1)) = P0 ++ bodyB (L.take j) ++ bl 2 m ++ r) := hstp
          obtain ⟨D0, hD0⟩ : ∃ D0, P0 ++ bodyB (L.take j) = D0 := ⟨_, rfl⟩
          rw [hD0] at HR HST hpl
          have hput := rput_any w.heap.size _ D0 m 2 _ HR.out.1 HR.out.2.size (by omega) (by omega) (by omega)
          have hw16 : IntKind.u64.wrap (m : Int) = (m : Int) := by rw [IntKind.wrap_u64]; omega
          have hmi : (m : Int) ≤ 200 := by omega
          have hm0 : (0 : Int) ≤ (m : Int) := by omega
          clear hstp htk hbk hrm hr hm hD0 hat
          go_wp2_with fail
          refine hput.mono ?_
          rintro e w4 ⟨v4, rfl, o4, b4⟩
          have H4 : Hid (Own w4 5 w.heap.size v4 (D0 ++ bl 2 m ++ r.take 0) ∧ Up w w4) := ⟨by simpa using o4, Below.trans HR.out.2 b4⟩
          clear hput o4 b4 HR hca
          go_wp2
          go_loopg [8, 10] m (fun g s i wr => ∃ t : Nat, t ≤ m ∧ g = m - t ∧ i = .int .i64 t ∧ Hid (Own wr 5 w.heap.size s (D0 ++ bl 2 m ++ r.take t) ∧ Up w wr))
          case atStart => exact ⟨0, by omega, rfl, rfl, H4.out⟩
          case round =>
            clear H4
            obtain ⟨t, ht, rfl, rfl, HR⟩ := hrel
            have hca := (HAT.out _ HR.out.2).1
            by_cases htm : t < m
            · have Htm : Hid (t < m) := htm
              have hslr := (HAT.out _ HR.out.2).2
              have htr : t < r.length := by rw [HM.out]; exact htm
              obtain ⟨a9, c9, e9, _, _, hx9⟩ := hslr
              obtain ⟨b9, o9, rfl, _, hat9⟩ := hx9 (by rintro rfl; simp at htr)
              simp only [Value.slice.injEq] at e9
              obtain ⟨rfl, e9a, e9b⟩ := e9
              clear e9a e9b
              have hcc := hat9 t htr
              have htk := List.take_succ_eq_append_getElem htr
              obtain ⟨c, hc⟩ : ∃ c, r[t]'htr = c := ⟨_, rfl⟩
              rw [hc] at hcc htk
              have HST2 : Hid (r.take (t + 1) = r.take t ++ [c]) := htk
              simp only [B] at hcc
              clear hx9 hat9 htk hc htr
              go_wp2_with (at_builtin; refine wpList_push _ rfl (.tmp 81) (.tmp 89) rfl w.heap.size _ _ rfl _ rfl HR.out.1 HR.out.2.size (by rw [List.length_append, List.length_append, bl_length, List.length_take]; omega) c rfl ?_)
              intro v5 w5 o5 b5
              have H5 : Hid (Own w5 5 w.heap.size v5 (D0 ++ bl 2 m ++ r.take (t + 1)) ∧ Up w w5) := ⟨by rw [HST2.out]; simpa only [List.append_assoc] using o5, Below.trans HR.out.2 b5⟩
              clear o5 b5 HR hca hcc
              go_wp2
              go_roundg (m - (t + 1))
              case measure => have := Htm.out; omega
              case rel => exact ⟨t + 1, Htm.out, rfl, by go_num, H5⟩
            · obtain rfl : t = m := by omega
              have h6 := HR.out
              rw [← HM.out, List.take_length, HM.out, ← HST.out] at h6
              have H6 := show Hid _ from h6
              clear h6
              clear HR
              go_wp2
              go_roundg (k - (j + 1))
              case measure => have := Hlt.out; omega
              case rel => exact ⟨j + 1, Hlt.out, rfl, by go_num, H6⟩
        · obtain rfl : j = k := by omega
          have hR := HR.out
          rw [← HN.out, List.take_length] at hR
          obtain ⟨sa, sc, rfl⟩ := own_len hR.1
          obtain ⟨q0, hq0⟩ : ∃ q0, (P0 ++ bodyB L).length = q0 := ⟨_, rfl⟩
          have hq1 : q0 = 18 + (bodyB L).length := by rw [← hq0, List.length_append, HPl.out]
          have hq2 := HV.out.2.room
          have HQ : Hid ((P0 ++ bodyB L).length = q0 ∧ q0 = 18 + (bodyB L).length) := ⟨hq0, hq1⟩
          rw [hq0] at hR ⊢
          have H7 : Hid (Own wr 5 w.heap.size (.slice sa q0 sc) (P0 ++ bodyB L ++ List.replicate (q0 - q0) 0) ∧ Up w wr) := ⟨by simpa using hR.1, hR.2⟩
          have hqi : q0 ≤ 512 := by omega
          clear HR hR hq0 hq1 hq2 hlt
          go_wp2
          go_loopg [8] (512 - q0) (fun g sl wr => ∃ (q : Nat) (a : Option Addr) (c : Nat), q ≤ 512 ∧ g = 512 - q ∧ sl = .slice a q c ∧ Hid (Own wr 5 w.heap.size (.slice a q c) (P0 ++ bodyB L ++ List.replicate (q - q0) 0) ∧ q0 ≤ q ∧ Up w wr))
          case atStart => exact ⟨q0, sa, sc, hqi, rfl, rfl, H7.out.1, Nat.le_refl _, H7.out.2⟩
          case round =>
            clear H7
            obtain ⟨q, a, c, hq, rfl, rfl, HR⟩ := hrel
            by_cases hlt : q < 512
            · have Hlt : Hid (q < 512) := hlt
              have hli : (q : Int) < 512 := by omega
              have hq0 : (0 : Int) ≤ (q : Int) := by omega
              have hll : (P0 ++ bodyB L ++ List.replicate (q - q0) 0).length = q := by rw [List.length_append, HQ.out.1, List.length_replicate]; have := HR.out.2.1; omega
              have hrs : P0 ++ bodyB L ++ List.replicate (q + 1 - q0) 0 = P0 ++ bodyB L ++ List.replicate (q - q0) 0 ++ [(0 : UInt8)] := by
                rw [show q + 1 - q0 = (q - q0) + 1 by have := HR.out.2.1; omega, List.replicate_succ', ← List.append_assoc]
              obtain ⟨D1, hD1⟩ : ∃ D1, P0 ++ bodyB L ++ List.replicate (q - q0) 0 = D1 := ⟨_, rfl⟩
              rw [hD1] at HR hll hrs
              have HRS : Hid (P0 ++ bodyB L ++ List.replicate (q + 1 - q0) 0 = D1 ++ [(0 : UInt8)] ∧ D1.length = q) := ⟨hrs, hll⟩
              clear hrs hD1 hll
              go_wp2_with (at_builtin; refine wpList_push _ rfl (.tmp 94) (.tmp 95) rfl w.heap.size _ _ rfl _ rfl HR.out.1 HR.out.2.2.size (by rw [HRS.out.2]; omega) 0 rfl ?_)
              intro v5 w5 o5 b5
              rw [← HRS.out.1] at o5
              have hl5 : (P0 ++ bodyB L ++ List.replicate (q + 1 - q0) 0).length = q + 1 := by rw [HRS.out.1, List.length_append, HRS.out.2]; rfl
              obtain ⟨a5, c5, rfl⟩ := own_len o5
              rw [hl5] at o5 ⊢
              have H5 : Hid (Own w5 5 w.heap.size (.slice a5 (q + 1) c5) (P0 ++ bodyB L ++ List.replicate (q + 1 - q0) 0) ∧ q0 ≤ q + 1 ∧ Up w w5) := ⟨o5, by have := HR.out.2.1; omega, Below.trans HR.out.2.2 b5⟩
              clear o5 b5 HR HRS hl5
              go_wp2
              go_roundg (512 - (q + 1))
              case measure => have := Hlt.out; omega
              case rel => exact ⟨q + 1, a5, c5, Hlt.out, rfl, rfl, H5⟩
            · obtain rfl : q = 512 := by omega
              have hR := HR.out
              have hD : P0 ++ bodyB L ++ List.replicate (512 - q0) 0 = preB first j ++ [0, 0, 0, 0] ++ bodyZ L := by
                rw [← HP0.out, bodyZ, ← List.append_assoc, HQ.out.2]
                congr 2
                omega
              rw [hD] at hR
              have hZ := bodyZ_length HV.out.2.room
              have h14 := preB_length first j
              have hS := rsummed_any w.heap.size _ (preB first j ++ [0, 0, 0, 0] ++ bodyZ L) (wr.alloc (.cells (Bv []).toArray 5)) ((hR.1.sl).up (Up.alloc _ _)) (by rw [List.length_append, List.length_append, h14, hZ]; rfl)
              have e14 : (preB first j ++ [0, 0, 0, 0] ++ bodyZ L).take 14 = preB first j := by rw [List.append_assoc]; exact List.take_left' h14
              have e18 : (preB first j ++ [0, 0, 0, 0] ++ bodyZ L).drop 18 = bodyZ L := List.drop_left' (by rw [List.length_append, h14]; rfl)
              have HB : Hid (blkB first L = ovr (preB first j ++ [0, 0, 0, 0] ++ bodyZ L) 14 (bl 4 (sumAll (preB first j) (bodyZ L)).toNat)) := by
                show _ = _
                rw [ovr, e14, bl_length, e18, blkB, HN.out]
              have HDl : Hid ((preB first j ++ [0, 0, 0, 0] ++ bodyZ L).length = 512) := by show _ = _; rw [List.length_append, List.length_append, h14, hZ]; rfl
              rw [e14, e18] at hS
              obtain ⟨D, hDD⟩ : ∃ D, preB first j ++ [0, 0, 0, 0] ++ bodyZ L = D := ⟨_, rfl⟩
              obtain ⟨S, hSS⟩ : ∃ S, sumAll (preB first j) (bodyZ L) = S := ⟨_, rfl⟩
              rw [hDD] at hR HB HDl
              rw [hSS] at HB hS
              have HR2 : Hid (Own wr 5 w.heap.size (.slice a 512 c) D ∧ Up w wr) := ⟨hR.1, hR.2.2⟩
              have oe := own_built wr [] (by decide)
              clear HR hR hD hZ h14 e14 e18 hDD hSS hlt HP0 HPl
              go_wp2_with fail
              refine hS.mono ?_
              rintro e w6 ⟨rfl, u6⟩
              clear hS
              have oe6 := ownsRow_up oe u6
              have U6 : Up wr w6 := Up.trans (Up.alloc _ _) u6
              have hput := rput_any wr.heap.size (.slice (some ⟨wr.heap.size, 0, none⟩) 0 0) [] S.toNat 4 w6 oe6 U6.size (by decide) (by omega) (by have := S.isLt; omega)
              clear oe oe6 u6
              go_wp2_with fail
              refine hput.mono ?_
              rintro e w7 ⟨v7, rfl, o7, b7⟩
              clear hput
              rw [List.nil_append] at o7
              have U7 : Up wr w7 := Below.trans U6 b7
              have hX4 := bl_length 4 S.toNat
              obtain ⟨X, hX⟩ : ∃ X, bl 4 S.toNat = X := ⟨_, rfl⟩
              rw [hX] at o7 HB hX4
              obtain ⟨g7, c7, hv7, _⟩ := o7.some (by rintro rfl; simp at hX4)
              have o8 := ownsRow_up HR2.out.1 U7
              obtain ⟨g8, c8, hv8, _⟩ := HR2.out.1.some (by have := HDl.out; rintro rfl; simp at this)
              have hlt8 := (World.ownsRow.lt HR2.out.1 g8 (by rw [hv8]; rfl))
              have hge7 := (World.ownsRow.lt o7 g7 (by rw [hv7]; rfl)).1
              rw [HDl.out] at hv8
              rw [hX4] at hv7
              subst hv7
              rw [hv8] at o8
              simp only [Value.slice.injEq] at hv8
              obtain ⟨rfl, _, rfl⟩ := hv8
              have H8 : Hid (Own w7 5 w.heap.size (.slice (some ⟨g8, 0, none⟩) 512 c) (ovr D 14 (X.take 0)) ∧ Own w7 5 wr.heap.size (.slice (some ⟨g7, 0, none⟩) 4 c7) X ∧ Up w w7) := ⟨by rw [show ovr D 14 (X.take 0) = D by simp [ovr]]; exact o8, o7, Up.trans HR2.out.2 U7⟩
              have HC : Hid (w.heap.size ≤ g8 ∧ g8 < wr.heap.size ∧ wr.heap.size ≤ g7 ∧ X.length = 4 ∧ D.length = 512 ∧ blkB first L = ovr D 14 X) := ⟨hlt8.1, hlt8.2, hge7, hX4, HDl.out, HB.out⟩
              clear o7 b7 U6 U7 hX4 hX o8 hlt8 hge7 HR2 HB HDl HQ
              go_wp2
              obtain ⟨B0, hB0⟩ : ∃ B0, wr.heap.size = B0 := ⟨_, rfl⟩
              rw [hB0] at H8 HC
              clear hB0
              go_loopg [12] 4 (fun g i wr => ∃ x : Nat, x ≤ 4 ∧ g = 4 - x ∧ i = .int .i64 x ∧ Hid (Own wr 5 w.heap.size (.slice (some ⟨g8, 0, none⟩) 512 c) (ovr D 14 (X.take x)) ∧ Own wr 5 B0 (.slice (some ⟨g7, 0, none⟩) 4 c7) X ∧ Up w wr))
              case atStart => exact ⟨0, by omega, rfl, rfl, H8.out⟩
              case round =>
                clear H8
                obtain ⟨x, hx, rfl, rfl, HR⟩ := hrel
                by_cases hlt : x < 4
                · have Hlt : Hid (x < 4) := hlt
                  have hxl : x < X.length := by rw [HC.out.2.2.2.1]; exact hlt
                  have htk := List.take_succ_eq_append_getElem hxl
                  have hol : (ovr D 14 (X.take x)).length = 512 := by rw [ovr_length (by rw [List.length_take, HC.out.2.2.2.2.1]; omega)]; exact HC.out.2.2.2.2.1
                  have hset := HR.out.1.set (14 + x) (by rw [hol]; omega) (X[x]'hxl)
                  have hov := ovr_set D 14 (X.take x) (X[x]'hxl) (by rw [List.length_take, HC.out.2.2.2.2.1]; omega)
                  rw [List.length_take, Nat.min_eq_left (by omega), ← htk] at hov
                  rw [hov] at hset
                  have hsome := HR.out.1.some (by intro e; rw [e] at hol; simp at hol)
                  obtain ⟨g8', c8', e8, hat8⟩ := hsome
                  simp only [Value.slice.injEq, Option.some.injEq, Addr.mk.injEq] at e8
                  obtain ⟨⟨rfl, _⟩, _, rfl⟩ := e8
                  have hcell := hat8 (14 + x) _ (List.getElem?_eq_getElem (by rw [hol]; omega))
                  have hfz := HR.out.1.not_frozen (t := 14 + x)
                  obtain ⟨g7', c7', e7, hat7⟩ := HR.out.2.1.some (by intro e; have := HC.out.2.2.2.1; rw [e] at this; simp at this)
                  simp only [Value.slice.injEq, Option.some.injEq, Addr.mk.injEq] at e7
                  obtain ⟨⟨rfl, _⟩, _, rfl⟩ := e7
                  have hc7 := hat7 x _ (List.getElem?_eq_getElem hxl)
                  obtain ⟨y, hy⟩ : ∃ y, X[x]'hxl = y := ⟨_, rfl⟩
                  obtain ⟨z, hz⟩ : ∃ z, (ovr D 14 (X.take x))[14 + x]'(by rw [hol]; omega) = z := ⟨_, rfl⟩
                  rw [hy] at hc7 hset
                  rw [hz] at hcell
                  have hbut : But g8 wr (wr.setCell ⟨g8, 14 + x, none⟩ (B y)) := But.setCell _ _ _ _
                  have H9 : Hid (Own (wr.setCell ⟨g8, 14 + x, none⟩ (B y)) 5 w.heap.size (.slice (some ⟨g8, 0, none⟩) 512 c) (ovr D 14 (X.take (x + 1))) ∧ Own (wr.setCell ⟨g8, 14 + x, none⟩ (B y)) 5 B0 (.slice (some ⟨g7, 0, none⟩) 4 c7) X ∧ Up w (wr.setCell ⟨g8, 14 + x, none⟩ (B y))) :=
                    ⟨hset, ownsRow_but HR.out.2.1 hbut (by have := HC.out; intro e; simp [Value.ownBlock] at e; omega), Below.trans HR.out.2.2 (hbut.below HC.out.1 HR.out.2.2.size)⟩
                  have hx0 : (0 : Int) ≤ (x : Int) := by omega
                  have hx4 : (x : Int) < 4 := by omega
                  clear hxl htk hol hset hov hat8 hat7 hy hz hbut HR
                  go_wp2
                  go_roundg (4 - (x + 1))
                  case measure => have := Hlt.out; omega
                  case rel => exact ⟨x + 1, Hlt.out, rfl, by go_num, H9⟩
                · obtain rfl : x = 4 := by omega
                  have h := HR.out
                  rw [List.take_of_length_le (Nat.le_of_eq HC.out.2.2.2.1), ← HC.out.2.2.2.2.2] at h
                  clear HR
                  go_wp2
                  go_ret2
                  exact ⟨_, rfl, h.1, h.2.2⟩

/-- The number of the reference's answer. -/
def rencF (first : Nat) (L : List Rec) : Nat := if NumOk first L.length then (if anyLong L = true ∨ 494 < (bodyB L).length then 4 else 0) else 1
theorem rEncode_any (first : Nat) (v : Value) (L : List (List UInt8)) (w : World) (hf : first < 18446744073709551616) (hv : Rw w v L) (hn : L.length ≤ 140737488355328) :
    Calls Tryd.prog 25 #[.int .u64 (first : Int), v] w fun e w' => ∃ v', e = .returned (.tuple #[v', .int .i64 (rencF first L : Nat)]) ∧ Own w' 5 w.heap.size v' (encR first L) ∧ Up w w' := by
  by_cases h1 : NumOk first L.length
  · by_cases h2 : anyLong L = true ∨ 494 < (bodyB L).length
    · simp only [rencF, encR, if_pos h1, if_pos h2, h1, h2, not_true_eq_false, and_false, if_false]
      refine (rEncode_long first v L w hf hv hn h1 h2).mono ?_
      rintro e w' ⟨rfl, rfl⟩
      exact ⟨_, rfl, Own.nil _ _ _, Up.refl _⟩
    · have hF : FitB first L := fitB_of h1 (by simpa using fun h => h2 (.inl h)) (by omega)
      simp only [rencF, encR, if_pos h1, if_neg h2]
      rw [if_pos ⟨h1, h2⟩]
      exact rEncode_ok first v L w hv hF
  · simp only [rencF, encR, if_neg h1, h1, false_and, if_false]
    refine (rEncode_arg first v L w hf hv hn h1).mono ?_
    rintro e w' ⟨rfl, rfl⟩
    exact ⟨_, rfl, Own.nil _ _ _, Up.refl _⟩
end Go.Proofs.YtoljalolfdnghaaDoor

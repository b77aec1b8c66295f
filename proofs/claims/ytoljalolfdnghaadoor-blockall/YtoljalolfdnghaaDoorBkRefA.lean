/- block: the reference's Numbered, put, summed, Number, named. -/
import Derived.Test.YtoljalolfdnghaaDoorBkKn
import Derived.Test.YtoljalolfdnghaaDoorRefC
set_option linter.unusedVariables false
set_option linter.unusedSimpArgs false
namespace Go.Proofs.YtoljalolfdnghaaDoor
open Go Go.RowKit

theorem own_len {w : World} {base : Nat} {v : Value} {bs : List UInt8} (h : Own w 5 base v bs) : ∃ ao cap, v = .slice ao bs.length cap := h.sl.slice
theorem rNumbered_any (first k : Nat) (hf : first < 18446744073709551616) (hk0 : 0 < k) (hk : (k : Int) ≤ 9223372036854775807) (w : World) :
    Calls Tryd.prog 41 #[.int .u64 (first : Int), .int .i64 (k : Int)] w fun e w' => e = .returned (.bool (decide (NumOk first k))) ∧ w' = w := by
  by_cases h2 : first = 0
  · subst h2
    have e : decide (NumOk 0 k) = false := by simp [NumOk]
    rw [e]
    clear e
    go_enter Tryd.func41, Tryd.ntmps41
    go_wp2
    go_ret
    exact ⟨rfl, rfl⟩
  · have h1 : (1 : Int) ≤ (first : Int) := by omega
    by_cases h3 : (first : Int) ≤ 4611686018427387904
    · have e : Hid (decide (NumOk first k) = decide ((k : Int) ≤ 4611686018427387904 - (first : Int) + 1)) := by
        show _ = _
        apply decide_eq_decide.2
        unfold NumOk
        omega
      obtain ⟨q, hq⟩ : ∃ q, decide (NumOk first k) = q := ⟨_, rfl⟩
      rw [hq] at e ⊢
      clear hq h2
      go_enter Tryd.func41, Tryd.ntmps41
      go_wp2
      go_ret
      rw [e.out]
      exact ⟨rfl, rfl⟩
    · have e : decide (NumOk first k) = false := by simp [NumOk]; omega
      rw [e]
      clear e h2
      go_enter Tryd.func41, Tryd.ntmps41
      go_wp2
      go_ret
      exact ⟨rfl, rfl⟩

set_option maxHeartbeats 400000 in
theorem rput_any (base : Nat) (v : Value) (bs : List UInt8) (x n : Nat) (w : World) (hs : Own w 5 base v bs) (hb : base ≤ w.heap.size) (hl : bs.length ≤ 140737488351232) (hn : n ≤ 8) (hx : x < 2 ^ 64) :
    Calls Tryd.prog 42 #[v, .int .u64 x, .int .i64 n] w fun e w' => ∃ v', e = .returned v' ∧ Own w' 5 base v' (bs ++ bl n x) ∧ Below base w w' := by
  rw [← le_bl]
  go_enter Tryd.func42, Tryd.ntmps42
  go_wp2
  go_loopg [0, 1, 7] n (fun g s y i wr => ∃ k : Nat, k ≤ n ∧ n - k = g ∧ i = .int .i64 k ∧ y = .int .u64 ((x / 256 ^ k : Nat) : Int) ∧ Hid (Own wr 5 base s (bs ++ le k x) ∧ Below base w wr))
  case atStart => exact ⟨0, Nat.zero_le _, rfl, rfl, by simp, by simpa [le] using hs, Below.refl _ _⟩
  case round =>
    obtain ⟨k, hk, rfl, rfl, rfl, HR⟩ := hrel
    by_cases hlt : k < n
    · have Hlt : Hid (k < n) := hlt
      have hst : x / 256 ^ (k + 1) = x / 256 ^ k / 256 := by rw [Nat.pow_succ, ← Nat.div_div_eq_div_mul]
      have Hst := show Hid _ from hst
      have hle := le_snoc k x
      have Hle := show Hid _ from hle
      obtain ⟨y, hy⟩ : ∃ y, x / 256 ^ k = y := ⟨_, rfl⟩
      rw [hy] at Hst Hle ⊢
      have hy64 : y < 18446744073709551616 := by rw [← hy]; exact Nat.lt_of_le_of_lt (Nat.div_le_self _ _) (by omega)
      have hyi : (y : Int) < 18446744073709551616 := by omega
      have hy0 : (0 : Int) ≤ (y : Int) := by omega
      clear hst hle hy hy64
      go_wp2_with (at_builtin; refine wpList_push _ rfl (.tmp 13) (.tmp 17) rfl base _ _ rfl _ rfl HR.out.1 ?hb ?hl (UInt8.ofNat y) ?hc ?_)
      case hb => have := HR.out.2.size; omega
      case hl => have := le_length k x; simp; omega
      case hc => rw [UInt8.toNat_ofNat']; omega
      intro v' w' ho' hb'
      have H5 : Hid (Own w' 5 base v' (bs ++ le (k + 1) x) ∧ Below base w w') := ⟨by rw [Hle.out]; exact ho', Below.trans HR.out.2 hb'⟩
      clear HR ho' hb'
      go_wp2
      go_roundg (n - (k + 1))
      case measure => have := Hlt.out; omega
      case rel => exact ⟨k + 1, Hlt.out, rfl, by go_num, by rw [Hst.out]; simp, H5⟩
    · obtain rfl : k = n := by omega
      have h := HR.out
      clear HR
      go_wp2
      go_ret
      exact ⟨_, rfl, h.1, h.2⟩

theorem lb_snoc (bs : List UInt8) (c : UInt8) : lb (bs ++ [c]) = lb bs + 256 ^ bs.length * c.toNat := by
  rw [← unle_lb, ← unle_lb, unle_snoc]
/-- The number by Horner's way, from the end. -/
theorem lb_cons (c : UInt8) (cs : List UInt8) : lb (c :: cs) = c.toNat + 256 * lb cs := rfl

set_option maxHeartbeats 400000 in
theorem rNumber_any (base : Nat) (v : Value) (bs : List UInt8) (at_ n : Nat) (w : World) (hs : Sl base w v bs) (hb : at_ + n ≤ bs.length) (hl : (bs.length : Int) ≤ 1000000) (hn : n ≤ 8) :
    Calls Tryd.prog 45 #[v, .int .i64 (at_ : Int), .int .i64 (n : Int)] w fun e w' => e = .returned (.int .u64 (lb ((bs.drop at_).take n) : Nat)) ∧ w' = w := by
  obtain ⟨R, hR⟩ : ∃ R, lb ((bs.drop at_).take n) = R := ⟨_, rfl⟩
  rw [hR]
  have HR0 : Hid (lb ((bs.drop at_).take n) = R ∧ at_ + n ≤ bs.length ∧ n ≤ 8) := ⟨hR, hb, hn⟩
  obtain ⟨ao, cap, rfl, _, _, hx⟩ := hs
  obtain ⟨N, hN⟩ : ∃ N, bs.length = N := ⟨_, rfl⟩
  have HN : Hid (bs.length = N) := hN
  rw [hN] at hb hl ⊢
  have hai : (at_ : Int) + (n : Int) ≤ (N : Int) := by omega
  have hn8 : (n : Int) ≤ 8 := by omega
  clear hR hb hn hN
  go_enter Tryd.func45, Tryd.ntmps45
  go_wp2
  go_loopg [7, 8] n (fun g x i wr => w = wr ∧ ∃ k : Nat, k ≤ n ∧ n - k = g ∧ i = .int .i64 ((n : Int) - (k : Int) - 1) ∧ x = .int .u64 ((lb (((bs.drop at_).take n).drop (n - k)) : Nat) : Int))
  case atStart => exact ⟨rfl, 0, by omega, by omega, by simp, by rw [Nat.sub_zero, List.drop_of_length_le (by simp; omega)]; rfl⟩
  case round =>
    obtain ⟨rfl, k, hk, rfl, rfl, rfl⟩ := hrel
    by_cases hlt : k < n
    · have Hlt : Hid (k < n) := hlt
      have hne : bs ≠ [] := by rintro rfl; have := HR0.out.2.1; simp at this; omega
      obtain ⟨b, o, rfl, _, hat⟩ := hx hne
      have hi1 : at_ + (n - (k + 1)) < bs.length := by have := HR0.out.2.1; omega
      have hc := hat _ hi1
      obtain ⟨t, ht⟩ : ∃ t, n - (k + 1) = t := ⟨_, rfl⟩
      have hti : (n : Int) - (k : Int) - 1 = (t : Int) := by omega
      have hnk : n - k = t + 1 := by omega
      have hl2 : t < ((bs.drop at_).take n).length := by rw [List.length_take, List.length_drop]; have := HR0.out.2.1; omega
      have hdr : ((bs.drop at_).take n).drop t = bs[at_ + (n - (k + 1))]'hi1 :: ((bs.drop at_).take n).drop (n - k) := by
        rw [List.drop_eq_getElem_cons hl2, hnk]
        congr 1
        simp [ht]
      obtain ⟨c, hcc⟩ : ∃ c, bs[at_ + (n - (k + 1))]'hi1 = c := ⟨_, rfl⟩
      rw [hcc] at hdr hc
      rw [ht] at hc
      have hst : lb (((bs.drop at_).take n).drop (n - (k + 1))) = c.toNat + 256 * lb (((bs.drop at_).take n).drop (n - k)) := by rw [ht, hdr, lb_cons]
      have hlb : lb (((bs.drop at_).take n).drop (n - k)) < 256 ^ k := by
        have := lb_lt (((bs.drop at_).take n).drop (n - k))
        rwa [show (((bs.drop at_).take n).drop (n - k)).length = k by simp; have := HR0.out.2.1; omega] at this
      have hlb7 : lb (((bs.drop at_).take n).drop (n - k)) < 256 ^ 7 := Nat.lt_of_lt_of_le hlb (Nat.pow_le_pow_right (by omega) (by have := HR0.out.2.2; omega))
      obtain ⟨X, hX⟩ : ∃ X, lb (((bs.drop at_).take n).drop (n - k)) = X := ⟨_, rfl⟩
      rw [hX] at hst hlb7 ⊢
      have hXi : (X : Int) < 72057594037927936 := by omega
      have hX0 : (0 : Int) ≤ (X : Int) := by omega
      have hq := c.toNat_lt
      have hq2 : (c.toNat : Int) < 256 := by omega
      have hq0 : (0 : Int) ≤ (c.toNat : Int) := by omega
      have Hst : Hid (lb (((bs.drop at_).take n).drop (n - (k + 1))) = c.toNat + 256 * X) := hst
      have hat0 : (0 : Int) ≤ (at_ : Int) := by omega
      have ht0 : (0 : Int) ≤ (t : Int) := by omega
      have hts : (at_ : Int) + (t : Int) < (N : Int) := by omega
      have Hti : Hid ((t : Int) - 1 = (n : Int) - ((k + 1 : Nat) : Int) - 1) := by show _ = _; omega
      have Hsi : Hid ((c.toNat : Int) + 256 * (X : Int) = ((c.toNat + 256 * X : Nat) : Int)) := by show _ = _; omega
      rw [hti]
      simp only [B] at hc
      clear hx hat hdr hst hlb hlb7 hX hcc hl2 hi1 hne hnk ht hti hlt hq
      go_wp2
      go_roundg (n - (k + 1))
      case measure => have := Hlt.out; omega
      case rel => exact ⟨rfl, k + 1, Hlt.out, rfl, by rw [← Hti.out], by rw [Hst.out, ← Hsi.out]; congr 1; omega⟩
    · obtain rfl : k = n := by omega
      have hr : lb (((bs.drop at_).take k).drop (k - k)) = R := by rw [Nat.sub_self, List.drop_zero, HR0.out.1]
      rw [hr]
      have hm : (k : Int) - (k : Int) - 1 = -1 := by omega
      rw [hm]
      clear hr HR0 hx hm
      go_wp2
      go_ret
      exact ⟨rfl, rfl⟩

set_option maxHeartbeats 400000 in
theorem rnamed_any (vb : Value) (bad : List Int) (i : Nat) (w : World) (hb : SlI w vb bad) (hn : bad.length ≤ 140737488355328) (hi : (i : Int) ≤ 9223372036854775807) :
    Calls Tryd.prog 47 #[vb, .int .i64 (i : Int)] w fun e w' => e = .returned (.bool (badOf bad i)) ∧ w' = w := by
  obtain ⟨q, hq⟩ : ∃ q, badOf bad i = q := ⟨_, rfl⟩
  rw [hq]
  have HQ : Hid (badOf bad i = q) := hq
  obtain ⟨ao, cap, rfl, _, _, hx⟩ := hb
  clear hq
  go_enter Tryd.func47, Tryd.ntmps47
  go_wp2
  go_loopg [5] bad.length (fun g j wr => w = wr ∧ ∃ k : Nat, k ≤ bad.length ∧ bad.length - k = g ∧ j = .int .i64 (k : Int) ∧ Hid ((i : Int) ∉ bad.take k))
  case atStart => exact ⟨rfl, 0, by omega, rfl, rfl, fun h => by simp at h⟩
  case round =>
    obtain ⟨rfl, k, hk, rfl, rfl, HR⟩ := hrel
    by_cases hlt : k < bad.length
    · have Hlt : Hid (k < bad.length) := hlt
      obtain ⟨b, o, rfl, hat⟩ := hx (by rintro rfl; simp at hlt)
      have hc := hat k hlt
      have hsn := List.take_succ_eq_append_getElem hlt
      have hmem := List.getElem_mem hlt
      obtain ⟨z, hz⟩ : ∃ z, bad[k]'hlt = z := ⟨_, rfl⟩
      rw [hz] at hc hsn hmem
      clear hx hat hz
      by_cases hzi : z = (i : Int)
      · have hr : q = true := by rw [← HQ.out]; exact decide_eq_true (hzi ▸ hmem)
        subst hr hzi
        clear HQ HR hsn hmem
        go_wp2
        go_ret
        exact ⟨rfl, rfl⟩
      · have Hst : Hid ((i : Int) ∉ bad.take (k + 1)) := by
          show _ ∉ _
          rw [hsn, List.mem_append]
          rintro (h | h)
          · exact HR.out h
          · simp at h; exact hzi h.symm
        have hne : (z == (i : Int)) = false := by simp only [beq_eq_false_iff_ne]; exact hzi
        clear HR hsn hmem hzi
        go_wp2
        go_roundg (bad.length - (k + 1))
        case measure => have := Hlt.out; omega
        case rel => exact ⟨rfl, k + 1, Hlt.out, rfl, by go_num, Hst⟩
    · obtain rfl : k = bad.length := by omega
      have hr : q = false := by
        rw [← HQ.out]
        have := HR.out
        rw [List.take_length] at this
        exact decide_eq_false this
      subst hr
      clear HQ HR hx hlt
      go_wp2
      go_ret
      exact ⟨rfl, rfl⟩

set_option maxHeartbeats 400000 in
theorem rsummed_any (base : Nat) (v : Value) (b : List UInt8) (w : World) (hs : Sl base w v b) (h : b.length = 512) :
    Calls Tryd.prog 43 #[v] w fun e w' => e = .returned (U (sumAll (b.take 14) (b.drop 18))) ∧ Up w w' := by
  obtain ⟨a14, c14, s14, hcut14⟩ := head_cut hs 14 (by omega)
  rw [show ((14 : Nat) : Int) = 14 from rfl] at hcut14
  obtain ⟨v18, s18, hcut18, _, _⟩ := sl_cut hs 18 512 (by omega) (by omega)
  rw [show ((18 : Nat) : Int) = 18 from rfl, show ((512 : Nat) : Int) = 512 from rfl] at hcut18
  rw [show (b.drop 18).take (512 - 18) = b.drop 18 from List.take_of_length_le (by rw [List.length_drop]; omega)] at s18
  have l18 : (b.drop 18).length = 494 := by rw [List.length_drop]; omega
  obtain ⟨a18, c18, rfl⟩ := s18.slice
  rw [l18] at hcut18
  have A1 := refAdd_any base 0#32 _ (b.take 14) w s14 (by rw [List.length_take]; omega)
  have e0 : U 0#32 = .int .u32 0 := rfl
  rw [e0] at A1
  obtain ⟨S1, hS1⟩ : ∃ S, addC 0#32 (b.take 14) = S := ⟨_, rfl⟩
  rw [hS1] at A1
  obtain ⟨S2, hS2⟩ : ∃ S, addC S1 [0, 0, 0, 0] = S := ⟨_, rfl⟩
  obtain ⟨S3, hS3⟩ : ∃ S, addC S2 (b.drop 18) = S := ⟨_, rfl⟩
  have hfin : sumAll (b.take 14) (b.drop 18) = S3 := by
    rw [← hS3, ← hS2, ← hS1]
    unfold sumAll
    rw [sumC_append, sumC_append]
    rfl
  rw [hfin]
  have HA2 : Hid (∀ u v, Sl 0 u v [0, 0, 0, 0] → Calls Tryd.prog 58 #[U S1, v] u fun e w' => e = .returned (U S2) ∧ w' = u) := fun u v hv => by
    have := refAdd_any 0 S1 v _ u hv (by simp)
    rwa [hS2] at this
  have HA3 : Hid (∀ u, Up w u → Calls Tryd.prog 58 #[U S2, .slice a18 494 c18] u fun e w' => e = .returned (U S3) ∧ w' = u) := fun u hu => by
    have := refAdd_any base S2 _ _ u (s18.up hu) (by rw [l18]; omega)
    rw [hS3, l18] at this
    exact this
  obtain ⟨ao, cap, rfl⟩ := hs.slice
  rw [h] at hcut14 hcut18 ⊢
  clear hs s14 s18 l18 hS1 hS2 hS3 hfin h e0
  go_enter Tryd.func43, Tryd.ntmps43
  go_wp2_with fail
  refine A1.mono ?_
  rintro e w1 ⟨rfl, e1⟩
  obtain rfl : w = w1 := e1.symm
  clear A1
  go_wp2_with fail
  have u2 : Up w (w.alloc (.cells #[.int .u8 0, .int .u8 0, .int .u8 0, .int .u8 0] 5)) := Up.alloc _ _
  refine (HA2.out _ _ ((sl_built w [0, 0, 0, 0] 5 (0, 0)).mono (Nat.zero_le _))).mono ?_
  rintro e w2 ⟨rfl, e2⟩
  subst e2
  have HU : Hid (Up w (w.alloc (.cells (Bv [0, 0, 0, 0]).toArray 5))) := u2
  clear HA2 u2
  go_wp2_with fail
  refine (HA3.out _ HU.out).mono ?_
  rintro e w3 ⟨rfl, e3⟩
  subst e3
  have HU2 := HU.out
  clear HA3 HU
  go_wp2
  go_ret
  exact ⟨rfl, HU2⟩
end Go.Proofs.YtoljalolfdnghaaDoor

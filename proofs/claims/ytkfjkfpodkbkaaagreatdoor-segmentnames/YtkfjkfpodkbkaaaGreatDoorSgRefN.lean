/- segment: the reference's Digits, Name, Number, First. -/
import Derived.Test.YtkfjkfpodkbkaaaGreatDoorSgFirst
import Derived.Test.YtkfjkfpodkbkaaaGreatDoorMg29
set_option linter.unusedVariables false
set_option linter.unusedSimpArgs false
namespace Go.Proofs.YtkfjkfpodkbkaaaGreatDoor
open Go Go.RowKit

theorem D16_cons : ∀ f x, D16 (f + 1) x = dig16 (x / 16 ^ f % 16) :: D16 f x
  | 0, x => by simp [D16]
  | f + 1, x => by
    rw [D16, D16_cons f (x / 16)]
    show _ = _ :: D16 (f + 1) x
    rw [D16, List.cons_append, Nat.div_div_eq_div_mul, Nat.pow_succ, Nat.mul_comm 16 (16 ^ f)]
theorem hexdig_run (n : Nat) (h : n < 16) (w : World) (q : IntKind) : (Instr.index 9 (.string ⟨#[48, 49, 50, 51, 52, 53, 54, 55, 56, 57, 97, 98, 99, 100, 101, 102]⟩) (.int q (n : Int))).run Tryz.prog w = .ok (B (dig16 n)) w := by
  have key : ∀ k : Fin 16, (⟨#[48, 49, 50, 51, 52, 53, 54, 55, 56, 57, 97, 98, 99, 100, 101, 102]⟩ : ByteArray)[k.val]? = some (dig16 k.val) := by decide +kernel
  have hs : (⟨#[48, 49, 50, 51, 52, 53, 54, 55, 56, 57, 97, 98, 99, 100, 101, 102]⟩ : ByteArray).size = 16 := by rfl
  rw [run_index_string (h := Tryz.underlying9), dif_pos ⟨by omega, by rw [hs]; omega⟩]
  have hk := key ⟨n, h⟩
  rw [ByteArray.getElem?_lt' _ _ (by rw [hs]; exact h)] at hk
  have e := Option.some.inj hk
  simp only [Int.toNat_natCast]
  rw [e]
/-- What is written of the digits: k of sixteen, the last ones. -/
structure DgK (w wr : World) (g x k : Nat) : Prop where
  own : Own wr 5 w.heap.size (.slice (some ⟨g, 0, none⟩) 16 16) (List.replicate (16 - k) 0 ++ D16 k x)
  up : Up w wr
theorem dgk_list (x k : Nat) (h : k < 16) : (List.replicate (16 - k) (0 : UInt8) ++ D16 k x).set (15 - k) (dig16 (x / 16 ^ k % 16)) = List.replicate (16 - (k + 1)) 0 ++ D16 (k + 1) x := by
  rw [D16_cons, List.set_append_left _ _ (by rw [List.length_replicate]; omega), show 16 - k = (16 - (k + 1)) + 1 by omega, List.replicate_succ', List.set_append_right _ _ (by rw [List.length_replicate]; omega)]
  simp only [List.length_replicate]
  rw [show 15 - k - (16 - (k + 1)) = 0 by omega]
  simp

set_option maxRecDepth 20000 in
set_option maxHeartbeats 800000 in
theorem Digits_any (x : Nat) (w : World) (hx : x < 18446744073709551616) :
    Calls Tryz.prog 39 #[.int .u64 (x : Int)] w fun e w' => e = .returned (Sv (D16 16 x)) ∧ Up w w' := by
  have hmk := make_u8 16 (by omega) w
  obtain ⟨g, hg⟩ : ∃ g, w.heap.size = g := ⟨_, rfl⟩
  obtain ⟨W1, hW1⟩ : ∃ W1, w.alloc (.cells (madeCells #[.int .u8 0] 16) 5) = W1 := ⟨_, rfl⟩
  have H0 : Hid (DgK w W1 g x 0) := by
    refine ⟨?_, by rw [← hW1]; exact Up.alloc _ _⟩
    rw [← hW1, ← hg]
    simpa [D16] using own_made 16 (by omega) w
  rw [hW1, hg] at hmk
  have hmk2 : (Instr.makeSlice 60 (.int .i64 16) (.int .i64 16)).run Tryz.prog w = .ok (.slice (some ⟨g, 0, none⟩) 16 16) W1 := hmk
  have HX : Hid (x < 18446744073709551616) := hx
  clear hmk hx hg hW1
  go_enter Tryz.func39, Tryz.ntmps39
  go_wp2_with fail
  clear hmk2
  go_loopg [4, 0] 17 (fun m p q wr => ∃ k y : Nat, m = 17 - k ∧ p = .int .i64 (15 - (k : Int)) ∧ q = .int .u64 (y : Int) ∧ Hid (k ≤ 16 ∧ y = x / 16 ^ k ∧ DgK w wr g x k))
  case atStart => exact ⟨0, x, rfl, rfl, rfl, by omega, by simp, H0⟩
  case round =>
    clear H0
    obtain ⟨k, y, rfl, rfl, rfl, HR⟩ := hrel
    by_cases hk : k < 16
    · obtain ⟨I, hI⟩ : ∃ I, 15 - k = I := ⟨_, rfl⟩
      have eI : (15 : Int) - (k : Int) = (I : Int) := by omega
      have hy : y < 18446744073709551616 := by
        have h1 := HR.out.2.1
        have h2 : x / 16 ^ k ≤ x := Nat.div_le_self _ _
        have := HX.out
        omega
      have I0 : (0 : Int) ≤ (I : Int) := by omega
      have I1 : (I : Int) ≤ 15 := by omega
      have y0 : (0 : Int) ≤ (y : Int) := by omega
      have y1 : (y : Int) < 18446744073709551616 := by omega
      obtain ⟨M, hM⟩ : ∃ M : Nat, y % 16 = M := ⟨_, rfl⟩
      obtain ⟨U, hU⟩ : ∃ U : Nat, y / 16 = U := ⟨_, rfl⟩
      have eM : (y : Int) % 16 = (M : Int) := by omega
      have eU : (y : Int) / 16 = (U : Int) := by omega
      have hd := fun u => hexdig_run M (by omega) u .u64
      have hown := HR.out.2.2.own
      have hlen : (List.replicate (16 - k) (0 : UInt8) ++ D16 k x).length = 16 := by simp [D16_length]; omega
      have hset := hown.set I (by rw [hlen]; omega) (dig16 M)
      have hfz := hown.not_frozen (t := I)
      have hcell := hown.at I (by rw [hlen]; omega)
      obtain ⟨old, hold⟩ : ∃ old, wr.cell? ⟨g, I, none⟩ = some old := ⟨_, by rw [Nat.zero_add] at hcell; exact hcell⟩
      have H1 : Hid (DgK w (wr.setCell ⟨g, I, none⟩ (B (dig16 M))) g x (k + 1)) := by
        refine ⟨?_, Below.setCell HR.out.2.2.up ?_ _⟩
        · rw [← dgk_list x k hk, hI, ← HR.out.2.1, hM]; exact hset
        · exact (World.ownsRow.lt hown g rfl).1
      have HI : Hid (15 - k = I ∧ k < 16 ∧ y % 16 = M ∧ y / 16 = U) := ⟨hI, hk, hM, hU⟩
      rw [eI]
      clear hI hk hy hM hU hown hlen hset hcell
      go_wp2_with fail
      go_roundg (17 - (k + 1))
      case measure => have := HI.out; omega
      case rel =>
        obtain ⟨q1, q2, q3, q4⟩ := HI.out
        refine ⟨k + 1, U, rfl, ?_, rfl, by omega, ?_, H1.out⟩
        · refine congrArg (Value.int .i64) ?_; omega
        · rw [← q4, HR.out.2.1, Nat.div_div_eq_div_mul, Nat.pow_succ]
    · have e16 : k = 16 := by have := HR.out.1; omega
      subst e16
      have hown := HR.out.2.2.own
      rw [Nat.sub_self, List.replicate_zero, List.nil_append] at hown
      have hstr := sl_string hown.sl
      have HU : Hid (Up w wr) := HR.out.2.2.up
      clear hown HR hk
      go_wp2
      go_ret
      exact ⟨rfl, HU.out⟩
theorem rName_any (x : Nat) (w : World) (hx : x < 18446744073709551616) :
    Calls Tryz.prog 12 #[.int .u64 (x : Int)] w fun e w' => e = .returned (Sv (nameB x)) ∧ Up w w' := by
  have hd := Digits_any x w hx
  have hn := nameB_D16 x hx
  obtain ⟨H, hH⟩ : ∃ H, D16 16 x = H := ⟨_, rfl⟩
  have hlen : H.length = 16 := by rw [← hH, D16_length]
  rw [hH] at hd hn
  have HN : Hid (nameB x = [108, 111, 103, 46] ++ H) := hn
  have hb : ¬ 9223372036854775807 < 4 + H.length := by omega
  clear hx hn hH hlen
  go_enter Tryz.func12, Tryz.ntmps12
  go_wp2_with fail
  refine hd.mono ?_
  rintro e w1 ⟨rfl, u1⟩
  clear hd
  go_wp2
  go_ret
  refine ⟨?_, u1⟩
  rw [HN.out]
  refine congrArg (fun b => Ending.returned (Value.string b)) (?_ : (⟨#[108, 111, 103, 46]⟩ : ByteArray) ++ ⟨H.toArray⟩ = _)
  apply ByteArray.ext
  simp

def NumR (s : List UInt8) (e : Ending) : Prop := ∃ (n : Nat) (b : Bool), e = .returned (.tuple #[.int .u64 (n : Int), .bool b]) ∧ n < 18446744073709551616 ∧ (b = true → s.length = 16 ∧ (∀ c ∈ s, isDig c = true) ∧ n = dvals s) ∧ (b = false → ¬ (s.length = 16 ∧ ∀ c ∈ s, isDig c = true))
theorem NumR.no {s : List UInt8} (h : ¬ (s.length = 16 ∧ ∀ c ∈ s, isDig c = true)) : NumR s (.returned (.tuple #[.int .u64 0, .bool false])) := ⟨0, false, rfl, by omega, (fun e => by cases e), fun _ => h⟩
theorem sv_index (s : List UInt8) (i : Nat) (h : i < s.length) (w : World) : (Instr.index 9 (Sv s) (.int .i64 (i : Int))).run Tryz.prog w = .ok (B s[i]) w := by
  have hs : (⟨s.toArray⟩ : ByteArray).size = s.length := by simp [ByteArray.size]
  rw [run_index_string (h := Tryz.underlying9), dif_pos ⟨by omega, by rw [hs]; omega⟩]
  simp only [Int.toNat_natCast]
  rfl
theorem dig_cases (c : UInt8) : isDig c = ((decide (48 ≤ c.toNat) && decide (c.toNat ≤ 57)) || (decide (97 ≤ c.toNat) && decide (c.toNat ≤ 102))) := rfl

set_option maxRecDepth 20000 in
set_option maxHeartbeats 1600000 in
theorem rNumber_any (s : List UInt8) (w : World) :
    Calls Tryz.prog 36 #[Sv s] w fun e w' => NumR s e ∧ w' = w := by
  by_cases hl : s.length = 16
  · have HL : Hid (s.length = 16) := hl
    have hq : ((s.length : Int) != 16) = false := by rw [hl]; rfl
    have hi : ∀ i (h : i < s.length) u, (Instr.index 9 (Sv s) (.int .i64 (i : Int))).run Tryz.prog u = .ok (B s[i]) u := fun i h u => sv_index s i h u
    have HI : Hid (∀ i (h : i < s.length) u, (Instr.index 9 (Sv s) (.int .i64 (i : Int))).run Tryz.prog u = .ok (B s[i]) u) := hi
    clear hl hi
    go_enter Tryz.func36, Tryz.ntmps36
    go_wp2_with fail
    go_loopg [5, 4] 16 (fun m p q wr => ∃ i x : Nat, m = 16 - i ∧ p = .int .i64 (i : Int) ∧ q = .int .u64 (x : Int) ∧ wr = w ∧ Hid (i ≤ 16 ∧ x = dvals (s.take i) ∧ ∀ c ∈ s.take i, isDig c = true))
    case atStart => exact ⟨0, 0, rfl, rfl, rfl, rfl, by omega, by simp [dvals], by simp⟩
    case round =>
      obtain ⟨i, x, rfl, rfl, rfl, hw, HR⟩ := hrel
      obtain rfl : w = wr := hw.symm
      have i0 : (0 : Int) ≤ (i : Int) := by omega
      by_cases h16 : i < 16
      · have i1 : (i : Int) < 16 := by omega
        have hil : i < s.length := by have := HL.out; omega
        have hx := HI.out i hil w
        have hdt := dvals_take s i hil
        have htk := List.take_succ_eq_append_getElem hil
        have hmem : s[i]'hil ∈ s := List.getElem_mem hil
        obtain ⟨c, hc⟩ : ∃ c, s[i]'hil = c := ⟨_, rfl⟩
        rw [hc] at hx hdt htk hmem
        have hxl : x < 1152921504606846976 := by
          have h3 := dvals_lt (s.take i) HR.out.2.2
          have h4 : (s.take i).length = i := by rw [List.length_take]; omega
          rw [h4] at h3
          have h5 : (16 : Nat) ^ i ≤ 16 ^ 15 := Nat.pow_le_pow_right (by omega) (by omega)
          have h6 : (16 : Nat) ^ 15 = 1152921504606846976 := by decide
          have := HR.out.2.1
          omega
        have HC : Hid (i < 16 ∧ dvals (s.take (i + 1)) = 16 * dvals (s.take i) + dval c ∧ s.take (i + 1) = s.take i ++ [c] ∧ c ∈ s ∧ x < 1152921504606846976) := ⟨h16, hdt, htk, hmem, hxl⟩
        have c0 : (0 : Int) ≤ (c.toNat : Int) := by omega
        have c1 : (c.toNat : Int) ≤ 255 := by have := c.toNat_lt; omega
        obtain ⟨P, hP⟩ : ∃ P, 16 * x = P := ⟨_, rfl⟩
        have w1 : IntKind.u64.wrap (16 * (x : Int)) = (P : Int) := by rw [IntKind.wrap_u64]; omega
        have HP : Hid (16 * x = P) := hP
        have P0 : (0 : Int) ≤ (P : Int) := by omega
        have P1 : (P : Int) ≤ 18446744073709551600 := by omega
        clear hc h16 hil hdt htk hmem hxl hP
        have HK : Hid (∀ D : Nat, dval c = D → isDig c = true → P + D = dvals (s.take (i + 1)) ∧ ∀ c ∈ s.take (i + 1), isDig c = true) := by
          intro D hD hdg
          obtain ⟨q1, q2, q3, q4, q5⟩ := HC.out
          obtain ⟨r1, r2, r3⟩ := HR.out
          refine ⟨?_, ?_⟩
          · rw [q2, ← r2, hD, HP.out]
          · rw [q3]
            intro c' hc'
            rcases List.mem_append.1 hc' with h | h
            · exact r3 c' h
            · simp at h; subst h; exact hdg
        by_cases d1 : 48 ≤ c.toNat ∧ c.toNat ≤ 57
        · have f1 : (48 : Int) ≤ (c.toNat : Int) := by omega
          have f2 : (c.toNat : Int) ≤ 57 := by omega
          obtain ⟨D, hD⟩ : ∃ D : Nat, c.toNat - 48 = D := ⟨_, rfl⟩
          have eD : (c.toNat : Int) - 48 = (D : Int) := by omega
          have D0 : (0 : Int) ≤ (D : Int) := by omega
          have D9 : (D : Int) ≤ 9 := by omega
          have w2 : IntKind.u64.wrap ((P : Int) + (D : Int)) = ((P + D : Nat) : Int) := by rw [IntKind.wrap_u64]; omega
          have HD : Hid (dval c = D ∧ isDig c = true) := ⟨by unfold dval; rw [if_pos d1.2]; exact hD, by rw [dig_cases]; simp [d1.1, d1.2]⟩
          clear d1 hD
          go_wp2_with fail
          go_roundg (16 - (i + 1))
          case measure => have := HC.out.1; omega
          case rel => exact ⟨i + 1, P + D, rfl, by go_num, by go_num, rfl, by have := HC.out.1; omega, (HK.out D HD.out.1 HD.out.2).1, (HK.out D HD.out.1 HD.out.2).2⟩
        · by_cases d2 : 97 ≤ c.toNat ∧ c.toNat ≤ 102
          · have f1 : (48 : Int) ≤ (c.toNat : Int) := by omega
            have f2 : decide ((c.toNat : Int) ≤ 57) = false := by simp; omega
            have f3 : (97 : Int) ≤ (c.toNat : Int) := by omega
            have f4 : (c.toNat : Int) ≤ 102 := by omega
            obtain ⟨D, hD⟩ : ∃ D : Nat, c.toNat - 97 = D := ⟨_, rfl⟩
            have eD : (c.toNat : Int) - 97 = (D : Int) := by omega
            have D0 : (0 : Int) ≤ (D : Int) := by omega
            have D9 : (D : Int) ≤ 5 := by omega
            have w2 : IntKind.u64.wrap ((P : Int) + (D : Int)) = (P : Int) + (D : Int) := by rw [IntKind.wrap_u64]; omega
            have w3 : IntKind.u64.wrap ((P : Int) + (D : Int) + 10) = ((P + (D + 10) : Nat) : Int) := by rw [IntKind.wrap_u64]; omega
            have HD : Hid (dval c = D + 10 ∧ isDig c = true) := ⟨by unfold dval; rw [if_neg (by omega)]; omega, by rw [dig_cases]; simp [d2.1, d2.2]⟩
            clear d1 d2 hD
            go_wp2_with fail
            go_roundg (16 - (i + 1))
            case measure => have := HC.out.1; omega
            case rel => exact ⟨i + 1, P + (D + 10), rfl, by go_num, by go_num, rfl, by have := HC.out.1; omega, (HK.out _ HD.out.1 HD.out.2).1, (HK.out _ HD.out.1 HD.out.2).2⟩
          · have HN : Hid (NumR s (.returned (.tuple #[.int .u64 0, .bool false]))) := NumR.no (fun h => by
              have h1 := h.2 c HC.out.2.2.2.1
              rw [dig_cases] at h1
              simp at h1
              omega)
            by_cases e1 : 48 ≤ c.toNat
            · have f1 : (48 : Int) ≤ (c.toNat : Int) := by omega
              have f2 : decide ((c.toNat : Int) ≤ 57) = false := by simp; omega
              by_cases e2 : 97 ≤ c.toNat
              · have f3 : (97 : Int) ≤ (c.toNat : Int) := by omega
                have f4 : decide ((c.toNat : Int) ≤ 102) = false := by simp; omega
                clear d1 d2 e1 e2
                go_wp2
                go_ret2
                exact ⟨HN.out, rfl⟩
              · have f3 : decide ((97 : Int) ≤ (c.toNat : Int)) = false := by simp; omega
                clear d1 d2 e1 e2
                go_wp2
                go_ret2
                exact ⟨HN.out, rfl⟩
            · have f1 : decide ((48 : Int) ≤ (c.toNat : Int)) = false := by simp; omega
              have f3 : decide ((97 : Int) ≤ (c.toNat : Int)) = false := by simp; omega
              clear d1 d2 e1
              go_wp2
              go_ret2
              exact ⟨HN.out, rfl⟩
      · have e16 : i = 16 := by have := HR.out.1; omega
        subst e16
        have HN : Hid (NumR s (.returned (.tuple #[.int .u64 (x : Int), .bool true]))) := by
          obtain ⟨r1, r2, r3⟩ := HR.out
          have e : s.take 16 = s := List.take_of_length_le (by rw [HL.out]; omega)
          rw [e] at r2 r3
          have h1 := dvals_lt s r3
          rw [HL.out] at h1
          exact ⟨x, true, rfl, by rw [r2]; simpa using h1, fun _ => ⟨HL.out, r3, r2⟩, (fun e => by cases e)⟩
        clear HR h16
        go_wp2
        go_ret2
        exact ⟨HN.out, rfl⟩
  · have hq : ((s.length : Int) != 16) = true := by simp; omega
    have HN : Hid (NumR s (.returned (.tuple #[.int .u64 0, .bool false]))) := NumR.no (fun h => hl h.1)
    clear hl
    go_enter Tryz.func36, Tryz.ntmps36
    go_wp2
    go_ret2
    exact ⟨HN.out, rfl⟩

set_option maxRecDepth 20000 in
set_option maxHeartbeats 800000 in
theorem rFirst_any (nm : List UInt8) (w : World) :
    Calls Tryz.prog 10 #[Sv nm] w fun e w' => FstR nm e ∧ w' = w := by
  have hbad : (nm.length ≠ 20 ∨ nm.take 4 ≠ [108, 111, 103, 46]) → FstR nm (.returned (.tuple #[.int .u64 0, .bool false])) := fun h => FstR.no fun x h1 h2 e => by
    subst e
    rcases h with h | h
    · exact h (nameB_length x (by omega))
    · apply h; rw [nameB_D16 x (by omega)]; rfl
  by_cases hl : nm.length = 20
  · have hq : ((nm.length : Int) != 20) = false := by rw [hl]; rfl
    have hh := head4 nm (by omega) w
    by_cases hp : nm.take 4 = [108, 111, 103, 46]
    · rw [hp] at hh
      have hc := cut4 nm (by omega) w
      have hnum := rNumber_any (nm.drop 4) w
      obtain ⟨S, hS⟩ : ∃ S, nm.drop 4 = S := ⟨_, rfl⟩
      have HS : Hid (nm = [108, 111, 103, 46] ++ S ∧ S.length = 16) := ⟨by rw [← hS, ← hp, List.take_append_drop], by rw [← hS, List.length_drop]; omega⟩
      rw [hS] at hc hnum
      clear hS hp hl hbad
      go_enter Tryz.func10, Tryz.ntmps10
      go_wp2_with fail
      refine hnum.mono ?_
      rintro e w1 ⟨⟨n, b, rfl, hn, ht, hf⟩, hw⟩
      obtain rfl : w = w1 := hw.symm
      clear hnum hh hc
      cases b with
      | false =>
        have HF : Hid (FstR nm (.returned (.tuple #[.int .u64 0, .bool false]))) := FstR.no fun x h1 h2 e => hf rfl (by
          have e2 := HS.out.1
          rw [e, nameB_D16 x (by omega)] at e2
          rw [← List.append_cancel_left e2]
          exact ⟨D16_length _ _, D16_dig _ _⟩)
        clear ht hf hn
        go_wp2
        go_ret2
        exact ⟨HF.out, rfl⟩
      | true =>
        have hnm : nm = nameB n := by
          obtain ⟨q1, q2, q3⟩ := ht rfl
          have e3 := D16_dvals S q2
          rw [q1, ← q3] at e3
          rw [nameB_D16 n hn, e3]
          exact HS.out.1
        have HN : Hid (nm = nameB n ∧ n < 18446744073709551616) := ⟨hnm, hn⟩
        have n0 : (0 : Int) ≤ (n : Int) := by omega
        clear ht hf hnm
        by_cases r1 : n < 1
        · obtain rfl : n = 0 := by omega
          have HF : Hid (FstR nm (.returned (.tuple #[.int .u64 0, .bool false]))) := FstR.no fun x h1 h2 e => by
            have := name_unique 0 x (by omega) (by omega) (by rw [← e]; exact HN.out.1.symm)
            omega
          clear hn r1 HN
          go_wp2
          go_ret2
          exact ⟨HF.out, rfl⟩
        · have g1 : decide ((n : Int) < 1) = false := by simp; omega
          by_cases r2 : n ≤ 4611686018427387904
          · have g2 : decide ((4611686018427387904 : Int) < (n : Int)) = false := by simp; omega
            have HF : Hid (FstR nm (.returned (.tuple #[.int .u64 (n : Int), .bool true]))) := FstR.yes HN.out.1 (by omega) r2
            clear hn r1 r2
            go_wp2
            go_ret2
            exact ⟨HF.out, rfl⟩
          · have g2 : decide ((4611686018427387904 : Int) < (n : Int)) = true := by simp; omega
            have HF : Hid (FstR nm (.returned (.tuple #[.int .u64 0, .bool false]))) := FstR.no fun x h1 h2 e => by
              have := name_unique n x hn (by omega) (by rw [← e]; exact HN.out.1.symm)
              omega
            clear hn r1 r2
            go_wp2
            go_ret2
            exact ⟨HF.out, rfl⟩
    · have HF : Hid (FstR nm (.returned (.tuple #[.int .u64 0, .bool false]))) := hbad (.inr hp)
      have hx : (nm.take 4 == [108, 111, 103, 46]) = false := by rw [beq_eq_false_iff_ne]; exact hp
      have hx2 : (nm.take 4 != [108, 111, 103, 46]) = true := by rw [bne, hx]; rfl
      obtain ⟨S, hS⟩ : ∃ S, nm.take 4 = S := ⟨_, rfl⟩
      rw [hS] at hh hx hx2
      clear hbad hl hp hS
      go_enter Tryz.func10, Tryz.ntmps10
      go_wp2
      go_ret2
      exact ⟨HF.out, rfl⟩
  · have hq : ((nm.length : Int) != 20) = true := by simp; omega
    have HF : Hid (FstR nm (.returned (.tuple #[.int .u64 0, .bool false]))) := hbad (.inl hl)
    clear hbad hl
    go_enter Tryz.func10, Tryz.ntmps10
    go_wp2
    go_ret2
    exact ⟨HF.out, rfl⟩
end Go.Proofs.YtkfjkfpodkbkaaaGreatDoor

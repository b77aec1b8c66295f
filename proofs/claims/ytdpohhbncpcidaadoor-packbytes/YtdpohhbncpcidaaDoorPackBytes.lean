/- The law PackBytes returns true for every number, and changes nothing that was there, where the package variables that it reads hold their errors. -/
import Derived.Test.YtdpohhbncpcidaaDoorLives
import Derived.Test.YtdpohhbncpcidaaDoorRows
set_option linter.unusedVariables false
namespace Go.Proofs.YtdpohhbncpcidaaDoor
open Go Go.RowKit

set_option maxHeartbeats 800000 in
theorem PackBytes_any (x : Nat) (hx : x < 2 ^ 64) (w : World) (aS aF aN : Addr) (h : Errs w aS aF aN) :
    Calls Tryd.prog 8 #[.int .u64 x] w fun e w' => e = .returned (.bool true) ∧ Up w w' := by
  go_enter Tryd.func8, Tryd.ntmps8
  go_wp2_with fail
  refine (lives_any _ aS aF aN h).mono ?_
  rintro e w1 ⟨rfl, hu1⟩
  go_wp2_with fail
  refine (PutU64_any _ [] x _ (Sl.nil 0 w1) (by simp) hx).mono ?_
  rintro e w2 ⟨v2, rfl, ho2, hu2⟩
  rw [List.nil_append] at ho2
  have hs2 := ho2.sl
  have hs2' := hs2
  obtain ⟨ao, cap, rfl, _, _, hxx⟩ := hs2
  have hl8 : (le 8 x).length = 8 := le_length 8 x
  obtain ⟨b, o, rfl, _, hat⟩ := hxx (by intro e; rw [e] at hl8; simp at hl8)
  rw [hl8]
  have HX : Hid (x < 2 ^ 64) := hx
  have e4 : le 4 (x % 4294967296) = (le 8 x).take 4 := by rw [le_take 4 8 x (by omega)]; exact le_mod 4 x
  have e2 : le 2 (x % 65536) = (le 8 x).take 2 := by rw [le_take 2 8 x (by omega)]; exact le_mod 2 x
  have E4 : Hid _ := e4
  have E2 : Hid _ := e2
  rw [hl8] at hs2'
  obtain ⟨vc4, c4, _, q4', _⟩ := sl_cut hs2' 0 4 (by omega) (by omega)
  have q4 : ∀ u, (Instr.slice 25 (.slice (some ⟨b, o, none⟩) 8 cap) none (some (.int .i64 4)) none).run Tryd.prog u = .ok vc4 u := q4' rfl
  obtain ⟨vc2, c2, _, q2', _⟩ := sl_cut hs2' 0 2 (by omega) (by omega)
  have q2 : ∀ u, (Instr.slice 25 (.slice (some ⟨b, o, none⟩) 8 cap) none (some (.int .i64 2)) none).run Tryd.prog u = .ok vc2 u := q2' rfl
  simp only [List.drop_zero, Nat.sub_zero] at c4 c2
  clear hx hxx e4 e2 q4' q2'
  go_wp2_with fail
  go_loop [4, 5] (fun y i => ∃ k Y : Nat, k ≤ 8 ∧ i = .int .i64 k ∧ y = .int .u64 (Y : Int) ∧ Hid (Y = x / 256 ^ k)) (fun _ i => 8 - (intOf i).toNat)
  case atStart => exact ⟨0, x, by omega, rfl, rfl, by simp [Hid]⟩
  case round =>
    obtain ⟨k, Y, hk, rfl, rfl, hY⟩ := hrel
    by_cases hlt : k < 8
    · have hc : w2.cell? ⟨b, o + k, none⟩ = some (.int .u8 ((Y : Int) % 256)) := by
        rw [hat k (by omega)]
        have hg := le_get 8 x k hlt
        rw [List.getElem?_eq_getElem (by omega)] at hg
        rw [Option.some.inj hg, ← hY.out]
        simp [B]
      have hn : Hid (Y / 256 = x / 256 ^ (k + 1)) := by show Y / 256 = _; rw [hY.out, Nat.pow_succ, Nat.div_div_eq_div_mul]
      have hlt2 : (k : Int) < 8 := by omega
      clear hlt hk hat
      go_wp2
      go_round
      case rel =>
        have hY64 : Y < 18446744073709551616 := by
          rw [hY.out]; exact Nat.lt_of_le_of_lt (Nat.div_le_self _ _) HX.out
        exact ⟨k + 1, Y / 256, by omega, by go_num, by rw [IntKind.wrap_u64]; congr 1; omega, hn⟩
      case measure => simp [intOf]; omega
    · obtain rfl : k = 8 := by omega
      clear hlt hk hY
      have hu3 := hu1.trans hu2
      go_wp2_with fail
      go_region_with (first
        | (go_at_call 27; rw [show IntKind.u32.wrap (x : Int) = ((x % 4294967296 : Nat) : Int) from by rw [IntKind.wrap_u32]; omega]; refine (PutU32_any _ [] _ _ (Sl.nil 0 _) (by simp) (by omega)).mono ?_; rintro e w4 ⟨v4, rfl, ho4, hu4⟩; rw [List.nil_append, E4.out] at ho4; have U4 : Up w2 w4 := (Up.drew w2).trans hu4; have s4 := ho4.sl; have t4 := c4.up U4)
        | (go_at_call 28; rw [show IntKind.u16.wrap (x : Int) = ((x % 65536 : Nat) : Int) from by rw [IntKind.wrap_u16]; omega]; refine (PutU16_any _ [] _ _ (Sl.nil 0 _) (by simp) (by omega)).mono ?_; rintro e w5 ⟨v5, rfl, ho5, hu5⟩; rw [List.nil_append, E2.out] at ho5; have U5 : Up w2 w5 := U4.trans hu5; have s5 := ho5.sl; have t5 := c2.up U5)
        | (go_at_call 24; refine (alike_eq _ _ _ _ _ _ (by assumption) (by assumption)).mono ?_; rintro e w6 ⟨rfl, rfl⟩))
      all_goals (go_wp2; go_ret; exact ⟨rfl, hu3.trans (by assumption)⟩)
end Go.Proofs.YtdpohhbncpcidaaDoor

/- crc: what the reference's step, Add, Sum, SumOf answer. -/
import Derived.Test.YtoljalolfdnghaaDoorAwake
set_option linter.unusedVariables false
namespace Go.Proofs.YtoljalolfdnghaaDoor
open Go Go.RowKit

theorem refStep_any (x : W32) (w : World) : Calls Tryd.prog 63 #[U x] w fun e w' => e = .returned (U (stp x)) ∧ w' = w := by
  have hs : (x.toNat : Int) / 2 = ((x >>> 1).toNat : Int) := shr_u x 1
  by_cases h : x.toNat % 2 = 1
  · have hx : stp x = (x >>> 1) ^^^ poly := by unfold stp; rw [low_odd, decide_eq_true h, if_pos rfl]
    have hr : (x.toNat : Int) % 2 = 1 := by omega
    rw [hx]
    have hp := xor_poly (x >>> 1)
    rw [← hs] at hp
    go_enter Tryd.func63, Tryd.ntmps63
    go_wp2
    go_ret
    exact ⟨congrArg (fun z => Ending.returned (.int .u32 z)) hp, rfl⟩
  · have hx : stp x = (x >>> 1) := by unfold stp; rw [low_odd, decide_eq_false h]; simp
    have hr : (x.toNat : Int) % 2 = 0 := by omega
    rw [hx]
    go_enter Tryd.func63, Tryd.ntmps63
    go_wp2
    go_ret
    exact ⟨congrArg (fun z => Ending.returned (.int .u32 z)) hs, rfl⟩

set_option maxHeartbeats 400000 in
theorem refAdd_any (base : Nat) (s : W32) (v : Value) (bs : List UInt8) (w : World) (hs : Sl base w v bs) (hl : bs.length ≤ 140737488355328) :
    Calls Tryd.prog 58 #[U s, v] w fun e w' => e = .returned (U (addC s bs)) ∧ w' = w := by
  generalize hR : addC s bs = R
  have HR : Hid (addC s bs = R) := hR
  clear hR
  have hn := not_u s
  have HR' : Hid (~~~ addB (~~~ s) bs = R) := HR
  clear HR
  generalize ~~~ s = ns at hn HR'
  obtain ⟨ao, cap, rfl, hc, _, hx⟩ := hs
  go_enter Tryd.func58, Tryd.ntmps58
  go_wp2
  go_loopg [5, 6, 7] bs.length (fun g x i j wr => w = wr ∧ ∃ k : Nat, k ≤ bs.length ∧ g = bs.length - k ∧ i = .int .i64 k ∧ x = U (addB ns (bs.take k)))
  case atStart => exact ⟨rfl, 0, by omega, rfl, rfl, rfl⟩
  case round =>
    obtain ⟨rfl, k, hk, rfl, rfl, rfl⟩ := hrel
    by_cases hlt : k < bs.length
    · obtain ⟨b, o, rfl, _, hat⟩ := hx (by rintro rfl; simp at hlt)
      have hca := hat k hlt
      have hxb := xor_byte (addB ns (bs.take k)) bs[k]
      have ht8 : Hid (addB ns (bs.take (k + 1)) = stpn 8 (addB ns (bs.take k) ^^^ byt bs[k])) := addB_take _ _ _ hlt
      have Hlt : Hid (k < bs.length) := hlt
      clear hx hat
      generalize bs[k] = c at hca hxb ht8
      generalize addB ns (bs.take k) = X at hxb ht8
      generalize X ^^^ byt c = V at hxb ht8
      go_wp2
      go_loopg [5, 7] 8 (fun g x j wr => w = wr ∧ ∃ t : Nat, t ≤ 8 ∧ g = 8 - t ∧ j = .int .i64 t ∧ x = U (stpn t V))
      case atStart => exact ⟨rfl, 0, by omega, rfl, rfl, rfl⟩
      case round =>
        obtain ⟨rfl, t, ht, rfl, rfl, rfl⟩ := hrel
        by_cases htl : t = 8
        · subst htl
          go_wp2
          go_roundg (bs.length - (k + 1))
          case measure => have := Hlt.out; omega
          case rel => exact ⟨rfl, k + 1, Hlt.out, rfl, by go_num, by rw [ht8.out]⟩
        · have ht7 : (t : Int) < 8 := by omega
          have h4 := refStep_any (stpn t V) w
          rw [stp_stpn] at h4
          have Ht : Hid (t < 8) := by show t < 8; omega
          clear ht htl
          go_wp2_with fail
          refine h4.mono ?_
          rintro e w1 ⟨rfl, rfl⟩
          clear h4
          go_wp2
          go_roundg (8 - (t + 1))
          case measure => have := Ht.out; omega
          case rel => exact ⟨rfl, t + 1, Ht.out, rfl, by go_num, rfl⟩
    · obtain rfl : k = bs.length := by omega
      have hnn := not_u (addB ns bs)
      rw [HR'.out] at hnn
      rw [List.take_length]
      clear hlt hx
      go_wp2
      go_ret
      exact ⟨rfl, rfl⟩


end Go.Proofs.YtoljalolfdnghaaDoor

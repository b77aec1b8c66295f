/- The law GcraRetries returns true for every row of numbers, and changes nothing that was there. -/
import Derived.Test.YtipbpppdifplbaaGcRefR
import Derived.Test.YtipbpppdifplbaaGcAdmits
set_option linter.unusedVariables false
namespace Go.Proofs.Ytipbpppdifplbaa
open Go Go.RowKit

set_option maxHeartbeats 6400000 in
theorem GcraRetries_any (v : Value) (qs : List Q5) (w : World) (hq : QsIn w v qs) (hlen : (qs.length : Int) ≤ 9223372036854775807) (hok : ∀ q ∈ qs, q.Ok) :
    Calls Try.prog 4 #[v] w fun e w' => e = .returned (.bool true) ∧ Up w w' := by
  obtain ⟨ao, cap, rfl, hx⟩ := hq
  go_enter Try.func4, Try.ntmps4
  go_wp2_with fail
  refine (lives_any _).mono ?_
  rintro e w1 ⟨rfl, u1⟩
  have H1 : Hid (Up w w1) := u1
  clear u1
  go_wp2
  go_loopg [3] qs.length (fun g i wr => ∃ k : Nat, k ≤ qs.length ∧ g = qs.length - k ∧ i = .int .i64 k ∧ Hid (Up w wr))
  case atStart => exact ⟨0, by omega, rfl, rfl, H1.out⟩
  case round =>
    obtain ⟨k, hk, rfl, rfl, hup⟩ := hrel
    by_cases hlt : k < qs.length
    · obtain ⟨b, o, rfl, hcell⟩ := hx (by rintro rfl; simp at hlt)
      have hpa := (hcell k hlt).up hup.out
      have hpf := hok _ (List.getElem_mem hlt)
      have Hlt : Hid (k < qs.length) := hlt
      generalize qs[k]'hlt = q at hpa hpf
      obtain ⟨gap, slack, tat, now, n⟩ := q
      obtain ⟨h0, h1, h2, h3, h4⟩ := hpa
      obtain ⟨l0, l1, l2, l3, l4⟩ := hpf
      simp only at h0 h1 h2 h3 h4 l0 l1 l2 l3 l4
      have k1 := Retry_any gap slack tat now n l0 l1 l2 l3 l4
      have k2 := rRetry_any gap slack tat now n l0 l1 l2 l3 l4
      have k3 := Burst_any gap slack tat now l0 l1 l2 l3
      have k4 := rBurst_any gap slack tat now l0 l1 l2 l3
      have k5 := Delay_any gap slack tat now l0 l1 l2 l3
      have k6 := rDelay_any gap slack tat now l0 l1 l2 l3
      generalize gRetry gap slack tat now n = R at *
      generalize gBurst gap slack tat now = U at *
      generalize gDelay gap slack tat now = D at *
      clear hcell hx hok H1 l0 l1 l2 l3 l4
      go_wp2_with fail
      have hs := s5_grow (s5_new wr gap slack tat now n) (Up.drew _)
      generalize wr.alloc (.cells #[V gap, V slack, V tat, V now, V n] 26) = wq at *
      generalize wr.heap.size = g at *
      clear h0 h1 h2 h3 h4
      go_region_held3 (fun w' => w'.cell? ⟨g, 0, none⟩ = some (V gap) ∧ w'.cell? ⟨g, 1, none⟩ = some (V slack) ∧ w'.cell? ⟨g, 2, none⟩ = some (V tat) ∧ w'.cell? ⟨g, 3, none⟩ = some (V now) ∧ w'.cell? ⟨g, 4, none⟩ = some (V n) ∧ Up wr w') (exact hs)
        (first
        | (go_at_call 13; refine (k1 _).mono ?_; rintro e w2 ⟨rfl, u2⟩; replace hs := s5_grow hs u2)
        | (go_at_call 14; refine (k2 _).mono ?_; rintro e w3 ⟨rfl, u3⟩; replace hs := s5_grow hs u3))
      replace hs := s5_grow hs (Up.drew _)
      clear k1 k2
      go_wp2_with fail
      go_region_held3 (fun w' => w'.cell? ⟨g, 0, none⟩ = some (V gap) ∧ w'.cell? ⟨g, 1, none⟩ = some (V slack) ∧ w'.cell? ⟨g, 2, none⟩ = some (V tat) ∧ w'.cell? ⟨g, 3, none⟩ = some (V now) ∧ w'.cell? ⟨g, 4, none⟩ = some (V n) ∧ Up wr w') (exact hs)
        (first
        | (go_at_call 15; refine (k3 _).mono ?_; rintro e w4 ⟨rfl, rfl⟩)
        | (go_at_call 16; refine (k4 _).mono ?_; rintro e w5 ⟨rfl, u5⟩; replace hs := s5_grow hs u5))
      replace hs := s5_grow hs (Up.drew _)
      clear k3 k4
      go_wp2_with fail
      go_region_held3 (fun w' => w'.cell? ⟨g, 0, none⟩ = some (V gap) ∧ w'.cell? ⟨g, 1, none⟩ = some (V slack) ∧ w'.cell? ⟨g, 2, none⟩ = some (V tat) ∧ w'.cell? ⟨g, 3, none⟩ = some (V now) ∧ w'.cell? ⟨g, 4, none⟩ = some (V n) ∧ Up wr w') (exact hs)
        (first
        | (go_at_call 17; refine (k5 _).mono ?_; rintro e w6 ⟨rfl, u6⟩; replace hs := s5_grow hs u6)
        | (go_at_call 18; refine (k6 _).mono ?_; rintro e w7 ⟨rfl, u7⟩; replace hs := s5_grow hs u7))
      have H5 : Hid (Up w _) := hup.out.trans hs.2.2.2.2.2
      clear k5 k6 hs hup
      go_wp2
      go_roundg (qs.length - (k + 1))
      case measure => have := Hlt.out; omega
      case rel => exact ⟨k + 1, Hlt.out, rfl, by go_num, H5⟩
    · obtain rfl : k = qs.length := by omega
      clear hx hlt hok H1
      go_wp2
      go_ret
      exact ⟨rfl, hup.out⟩
end Go.Proofs.Ytipbpppdifplbaa

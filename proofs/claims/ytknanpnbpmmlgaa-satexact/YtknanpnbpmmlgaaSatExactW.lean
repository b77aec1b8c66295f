/- The law SatExact returns true for every row of operands, and changes nothing that was there. -/
import Derived.Test.YtknanpnbpmmlgaaSatRightW
import Derived.Test.YtknanpnbpmmlgaaSatAwake
set_option linter.unusedVariables false
namespace Go.Proofs.Ytknanpnbpmmlgaa
open Go Go.RowKit

/-- Four numbers. -/
structure Q4 where
  a : Nat
  b : Nat
  c : Nat
  d : Nat
def Q4.Ok (q : Q4) : Prop := N64 q.a ∧ N64 q.b ∧ N64 q.c ∧ N64 q.d
def QAt (w : World) (b o : Nat) (q : Q4) : Prop := w.cell? ⟨b, o, none⟩ = some (V q.a) ∧ w.cell? ⟨b, o + 1, none⟩ = some (V q.b) ∧ w.cell? ⟨b, o + 2, none⟩ = some (V q.c) ∧ w.cell? ⟨b, o + 3, none⟩ = some (V q.d)
def QsIn (w : World) (v : Value) (qs : List Q4) : Prop :=
  ∃ ao cap, v = .slice ao qs.length cap ∧ (qs ≠ [] → ∃ b o, ao = some ⟨b, o, none⟩ ∧ ∀ i (h : i < qs.length), QAt w b (o + i * 4) qs[i])
theorem QAt.up {w w' : World} {b o : Nat} {q : Q4} (h : QAt w b o q) (hu : Up w w') : QAt w' b o q := by
  obtain ⟨h0, h1, h2, h3⟩ := h
  have hb : b < w.heap.size := World.block_lt_of_cell? w _ h0
  exact ⟨(hu.cell (p := ⟨b, o, none⟩) hb).trans h0, (hu.cell (p := ⟨b, o + 1, none⟩) hb).trans h1, (hu.cell (p := ⟨b, o + 2, none⟩) hb).trans h2, (hu.cell (p := ⟨b, o + 3, none⟩) hb).trans h3⟩

set_option maxHeartbeats 1600000 in
theorem SatExact_any (v : Value) (qs : List Q4) (w : World) (hq : QsIn w v qs) (hlen : (qs.length : Int) ≤ 9223372036854775807) (hok : ∀ q ∈ qs, q.Ok) :
    Calls Try.prog 3 #[v] w fun e w' => e = .returned (.bool true) ∧ Up w w' := by
  obtain ⟨ao, cap, rfl, hx⟩ := hq
  go_enter Try.func3, Try.ntmps3
  go_wp2_with fail
  refine (awake_any _).mono ?_
  rintro e w1 ⟨rfl, u1⟩
  have H1 : Hid (Up w w1) := u1
  clear u1
  go_wp2
  go_loopg [3] qs.length (fun g i wr => ∃ k : Nat, k ≤ qs.length ∧ g = qs.length - k ∧ i = .int .i64 k ∧ Hid (Up w wr))
  case atStart => exact ⟨0, by omega, rfl, rfl, H1.out⟩
  case round =>
    obtain ⟨k, hk, rfl, rfl, hup⟩ := hrel
    by_cases hlt : k < qs.length
    · obtain ⟨b, o, rfl, hcell⟩ := hx (by rintro rfl; simp at hlt)
      have hpa := (hcell k hlt).up hup.out
      have hpf := hok _ (List.getElem_mem hlt)
      have Hlt : Hid (k < qs.length) := hlt
      generalize qs[k]'hlt = q at hpa hpf
      obtain ⟨A, B, C, D⟩ := q
      obtain ⟨h0, h1, h2, h3⟩ := hpa
      have key := right_walk A B C D (right_same A B C D hpf.1 hpf.2.1 hpf.2.2.1 hpf.2.2.2) wr
      simp only at h0 h1 h2 h3
      clear hcell hx hok hpf H1
      go_wp2_with fail
      go_at_call 9
      refine key.mono ?_
      rintro e w5 ⟨rfl, u5⟩
      have H5 : Hid (Up w w5) := hup.out.trans u5
      clear key h0 h1 h2 h3 u5 hup
      go_wp2
      go_roundg (qs.length - (k + 1))
      case measure => have := Hlt.out; omega
      case rel => exact ⟨k + 1, Hlt.out, rfl, by go_num, H5⟩
    · obtain rfl : k = qs.length := by omega
      clear hx hlt hok H1
      go_wp2
      go_ret
      exact ⟨rfl, hup.out⟩
end Go.Proofs.Ytknanpnbpmmlgaa

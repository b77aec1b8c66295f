/- The law GcraAdmits returns true for every row of numbers, and changes nothing that was there. -/
import Derived.Test.YtipbpppdifplbaaGcFits
set_option linter.unusedVariables false
namespace Go.Proofs.Ytipbpppdifplbaa
open Go Go.RowKit

theorem tat_lt (gap slack tat now n : Nat) (ht : N64 tat) : N64 (gTat gap slack tat now n) := by
  unfold gTat N64 at *
  split
  · rename_i h; have := h.2.2.2; omega
  · exact ht

set_option maxHeartbeats 800000 in
theorem admits_any (gap slack tat now n : Nat) (hg : N64 gap) (hs : N64 slack) (ht : N64 tat) (hw : N64 now) (hn : N64 n) (w : World) :
    Calls Try.prog 11 #[Ak gap slack tat now n] w fun e w' => e = .returned (.bool true) ∧ Up w w' := by
  have k1 := radmit_any gap slack tat now n hg hs ht hw hn
  have k2 := Admit_any gap slack tat now n hg hs ht hw hn
  generalize gTat gap slack tat now n = T at *
  generalize decide (GFits gap slack tat now n) = o at *
  clear hg hs ht hw hn
  go_enter Try.func11, Try.ntmps11
  go_wp2_with fail
  refine (k1 _).mono ?_
  rintro e w1 ⟨rfl, u1⟩
  obtain ⟨hc, hf⟩ := bcell u1
  have hz : w.heap.size < w1.heap.size := by have := u1.size; simp at this; omega
  go_wp2_with fail
  refine (k2 _).mono ?_
  rintro e w2 ⟨rfl, u2⟩
  clear k1 k2
  go_wp2
  go_ret
  exact ⟨rfl, (Up.alloc _ _).trans (u1.trans u2)⟩

/-- Five numbers. -/
structure Q5 where
  gap : Nat
  slack : Nat
  tat : Nat
  now : Nat
  n : Nat
def Q5.Ok (q : Q5) : Prop := N64 q.gap ∧ N64 q.slack ∧ N64 q.tat ∧ N64 q.now ∧ N64 q.n
def QAt (w : World) (b o : Nat) (q : Q5) : Prop := w.cell? ⟨b, o, none⟩ = some (V q.gap) ∧ w.cell? ⟨b, o + 1, none⟩ = some (V q.slack) ∧ w.cell? ⟨b, o + 2, none⟩ = some (V q.tat) ∧ w.cell? ⟨b, o + 3, none⟩ = some (V q.now) ∧ w.cell? ⟨b, o + 4, none⟩ = some (V q.n)
def QsIn (w : World) (v : Value) (qs : List Q5) : Prop :=
  ∃ ao cap, v = .slice ao qs.length cap ∧ (qs ≠ [] → ∃ b o, ao = some ⟨b, o, none⟩ ∧ ∀ i (h : i < qs.length), QAt w b (o + i * 5) qs[i])
theorem QAt.up {w w' : World} {b o : Nat} {q : Q5} (h : QAt w b o q) (hu : Up w w') : QAt w' b o q := by
  obtain ⟨h0, h1, h2, h3, h4⟩ := h
  have hb : b < w.heap.size := World.block_lt_of_cell? w _ h0
  exact ⟨(hu.cell (p := ⟨b, o, none⟩) hb).trans h0, (hu.cell (p := ⟨b, o + 1, none⟩) hb).trans h1, (hu.cell (p := ⟨b, o + 2, none⟩) hb).trans h2, (hu.cell (p := ⟨b, o + 3, none⟩) hb).trans h3, (hu.cell (p := ⟨b, o + 4, none⟩) hb).trans h4⟩

set_option maxHeartbeats 3200000 in
theorem GcraAdmits_any (v : Value) (qs : List Q5) (w : World) (hq : QsIn w v qs) (hlen : (qs.length : Int) ≤ 9223372036854775807) (hok : ∀ q ∈ qs, q.Ok) :
    Calls Try.prog 3 #[v] w fun e w' => e = .returned (.bool true) ∧ Up w w' := by
  obtain ⟨ao, cap, rfl, hx⟩ := hq
  go_enter Try.func3, Try.ntmps3
  go_wp2_with fail
  refine (lives_any _).mono ?_
  rintro e w1 ⟨rfl, u1⟩
  have H1 : Hid (Up w w1) := u1
  clear u1
  go_wp2
  go_loopg [3, 4] qs.length (fun g t i wr => ∃ k T : Nat, k ≤ qs.length ∧ g = qs.length - k ∧ t = V T ∧ Hid (N64 T) ∧ i = .int .i64 k ∧ Hid (Up w wr))
  case atStart => exact ⟨0, 0, by omega, rfl, rfl, (by unfold N64; omega : N64 0), rfl, H1.out⟩
  case round =>
    obtain ⟨k, T, hk, rfl, rfl, hT, rfl, hup⟩ := hrel
    by_cases hlt : k < qs.length
    · obtain ⟨b, o, rfl, hcell⟩ := hx (by rintro rfl; simp at hlt)
      have hpa := (hcell k hlt).up hup.out
      have hpf := hok _ (List.getElem_mem hlt)
      have Hlt : Hid (k < qs.length) := hlt
      generalize qs[k]'hlt = q at hpa hpf
      obtain ⟨gap, slack, tat, now, n⟩ := q
      obtain ⟨h0, h1, h2, h3, h4⟩ := hpa
      obtain ⟨l0, l1, l2, l3, l4⟩ := hpf
      simp only at h0 h1 h2 h3 h4 l0 l1 l2 l3 l4
      have k1 := admits_any gap slack tat now n l0 l1 l2 l3 l4
      have k2 := admits_any gap slack T now n l0 l1 hT.out l3 l4
      have k3 := Admit_any gap slack T now n l0 l1 hT.out l3 l4
      have HT : Hid (N64 (gTat gap slack T now n)) := tat_lt gap slack T now n hT.out
      generalize gTat gap slack T now n = T2 at *
      generalize decide (GFits gap slack T now n) = o2 at *
      clear hcell hx hok H1 l0 l1 l2 l3 l4 hT
      go_wp2_with fail
      go_at_call 11
      refine (k1 _).mono ?_
      rintro e w3 ⟨rfl, u3⟩
      obtain ⟨hc3, hf3⟩ := bcell u3
      have z3 : wr.heap.size < w3.heap.size := by have := u3.size; simp at this; omega
      have v3 := (Up.alloc wr _).trans u3
      clear k1 u3 h0 h1 h2 h3 h4
      go_wp2_with fail
      go_at_call 11
      refine (k2 _).mono ?_
      rintro e w4 ⟨rfl, u4⟩
      obtain ⟨hc4, hf4⟩ := bcell u4
      have z4 : wr.heap.size < w4.heap.size := by have := u4.size; simp at this; omega
      have v4 := Up.trans (Below.setCell v3 (p := ⟨wr.heap.size, 2, none⟩) (by simp) _) u4
      clear k2 u4 v3
      go_wp2_with fail
      go_at_call 12
      refine (k3 _).mono ?_
      rintro e w5 ⟨rfl, u5⟩
      have H5 : Hid (Up w w5) := hup.out.trans (v4.trans u5)
      clear k3 u5 v4 hup hc3 hf3 hc4 hf4 z3 z4
      go_wp2
      go_roundg (qs.length - (k + 1))
      case measure => have := Hlt.out; omega
      case rel => exact ⟨k + 1, T2, Hlt.out, rfl, rfl, HT, by go_num, H5⟩
    · obtain rfl : k = qs.length := by omega
      clear hx hlt hok H1
      go_wp2
      go_ret
      exact ⟨rfl, hup.out⟩
end Go.Proofs.Ytipbpppdifplbaa

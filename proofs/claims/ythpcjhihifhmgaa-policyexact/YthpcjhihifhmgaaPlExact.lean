/- The law PolicyExact returns true for every row of Asks, and changes nothing that was there. -/
import Derived.Test.YthpcjhihifhmgaaPlRight
set_option linter.unusedVariables false
namespace Go.Proofs.Ythpcjhihifhmgaa
open Go Go.RowKit

structure AskN where
  k : Int
  g : Nat
  s : Nat
  l : Nat
  p : Nat
  t : Nat
  i : Nat
  c : Nat
  t2 : Nat
  i2 : Nat
  c2 : Nat
  now : Nat
  n : Nat
def AskN.Ok (q : AskN) : Prop := N64 q.g ∧ N64 q.s ∧ N64 q.l ∧ N64 q.p ∧ N64 q.t ∧ N64 q.i ∧ N64 q.c ∧ N64 q.t2 ∧ N64 q.i2 ∧ N64 q.c2 ∧ N64 q.now ∧ N64 q.n
def AskAt (w : World) (b o : Nat) (q : AskN) : Prop := w.cell? ⟨b, o, none⟩ = some (.int .i64 q.k) ∧ w.cell? ⟨b, o + 1, none⟩ = some (V q.g) ∧ w.cell? ⟨b, o + 2, none⟩ = some (V q.s) ∧ w.cell? ⟨b, o + 3, none⟩ = some (V q.l) ∧ w.cell? ⟨b, o + 4, none⟩ = some (V q.p) ∧ w.cell? ⟨b, o + 5, none⟩ = some (V q.t) ∧ w.cell? ⟨b, o + 6, none⟩ = some (V q.i) ∧ w.cell? ⟨b, o + 7, none⟩ = some (V q.c) ∧ w.cell? ⟨b, o + 8, none⟩ = some (V q.t2) ∧ w.cell? ⟨b, o + 9, none⟩ = some (V q.i2) ∧ w.cell? ⟨b, o + 10, none⟩ = some (V q.c2) ∧ w.cell? ⟨b, o + 11, none⟩ = some (V q.now) ∧ w.cell? ⟨b, o + 12, none⟩ = some (V q.n)
def AsksIn (w : World) (v : Value) (qs : List AskN) : Prop :=
  ∃ ao cap, v = .slice ao qs.length cap ∧ (qs ≠ [] → ∃ b o, ao = some ⟨b, o, none⟩ ∧ ∀ i (h : i < qs.length), AskAt w b (o + i * 13) qs[i])
theorem AskAt.up {w w' : World} {b o : Nat} {q : AskN} (h : AskAt w b o q) (hu : Up w w') : AskAt w' b o q := by
  obtain ⟨h0, h1, h2, h3, h4, h5, h6, h7, h8, h9, h10, h11, h12⟩ := h
  have hb : b < w.heap.size := World.block_lt_of_cell? w _ h0
  exact ⟨(hu.cell (p := ⟨b, o, none⟩) hb).trans h0, (hu.cell (p := ⟨b, o + 1, none⟩) hb).trans h1, (hu.cell (p := ⟨b, o + 2, none⟩) hb).trans h2, (hu.cell (p := ⟨b, o + 3, none⟩) hb).trans h3, (hu.cell (p := ⟨b, o + 4, none⟩) hb).trans h4, (hu.cell (p := ⟨b, o + 5, none⟩) hb).trans h5, (hu.cell (p := ⟨b, o + 6, none⟩) hb).trans h6, (hu.cell (p := ⟨b, o + 7, none⟩) hb).trans h7, (hu.cell (p := ⟨b, o + 8, none⟩) hb).trans h8, (hu.cell (p := ⟨b, o + 9, none⟩) hb).trans h9, (hu.cell (p := ⟨b, o + 10, none⟩) hb).trans h10, (hu.cell (p := ⟨b, o + 11, none⟩) hb).trans h11, (hu.cell (p := ⟨b, o + 12, none⟩) hb).trans h12⟩

set_option maxHeartbeats 3200000 in
theorem PolicyExact_any (v : Value) (qs : List AskN) (w : World) (hq : AsksIn w v qs) (hlen : (qs.length : Int) ≤ 9223372036854775807) (hok : ∀ q ∈ qs, q.Ok) :
    Calls Try.prog 3 #[v] w fun e w' => e = .returned (.bool true) ∧ Up w w' := by
  obtain ⟨ao, cap, rfl, hx⟩ := hq
  go_enter Try.func3, Try.ntmps3
  go_wp2_with fail
  refine (awake_any _).mono ?_
  rintro e w1 ⟨rfl, u1⟩
  have H1 : Hid (Up w w1) := u1
  clear u1
  go_wp2
  go_loopg [3] qs.length (fun g i wr => ∃ k : Nat, k ≤ qs.length ∧ g = qs.length - k ∧ i = .int .i64 k ∧ Hid (Up w wr))
  case atStart => exact ⟨0, by omega, rfl, rfl, H1.out⟩
  case round =>
    obtain ⟨k, hk, rfl, rfl, hup⟩ := hrel
    by_cases hlt : k < qs.length
    · obtain ⟨b, o, rfl, hcell⟩ := hx (by rintro rfl; simp at hlt)
      have hpa := (hcell k hlt).up hup.out
      have hpf := hok _ (List.getElem_mem hlt)
      have Hlt : Hid (k < qs.length) := hlt
      generalize qs[k]'hlt = q at hpa hpf
      obtain ⟨kind, g, s, l, p, t, i, c, t2, i2, c2, now, n⟩ := q
      obtain ⟨h0, h1, h2, h3, h4, h5, h6, h7, h8, h9, h10, h11, h12⟩ := hpa
      obtain ⟨l1, l2, l3, l4, l5, l6, l7, l8, l9, l10, l11, l12⟩ := hpf
      simp only at h0 h1 h2 h3 h4 h5 h6 h7 h8 h9 h10 h11 h12 l1 l2 l3 l4 l5 l6 l7 l8 l9 l10 l11 l12
      have k1 := right_any kind g s l p t i c t2 i2 c2 now n l1 l2 l3 l4 l5 l6 l7 l11 l12
      clear hcell hx hok H1 l1 l2 l3 l4 l5 l6 l7 l8 l9 l10 l11 l12
      go_wp2_with fail
      refine (k1 _).mono ?_
      rintro e w3 ⟨rfl, u3⟩
      have H5 : Hid (Up w w3) := hup.out.trans u3
      clear k1 u3 hup h0 h1 h2 h3 h4 h5 h6 h7 h8 h9 h10 h11 h12
      go_wp2
      go_roundg (qs.length - (k + 1))
      case measure => have := Hlt.out; omega
      case rel => exact ⟨k + 1, Hlt.out, rfl, by go_num, H5⟩
    · obtain rfl : k = qs.length := by omega
      clear hx hlt hok H1
      go_wp2
      go_ret
      exact ⟨rfl, hup.out⟩
end Go.Proofs.Ythpcjhihifhmgaa

/- The law WindowSums returns true for every limit, span and row of events, and changes nothing that was there. -/
import Derived.Test.YtdopbnmmcjofmaaWnLives
import Derived.Deep.LoopGhost
set_option linter.unusedVariables false
namespace Go.Proofs.Ytdopbnmmcjofmaa
open Go Go.RowKit

/-- An event's two numbers in their cells; a slice of events. -/
def EvAt (w : World) (b o : Nat) (q : Nat × Nat) : Prop := w.cell? ⟨b, o, none⟩ = some (V q.1) ∧ w.cell? ⟨b, o + 1, none⟩ = some (V q.2)
def EvIn (w : World) (v : Value) (qs : List (Nat × Nat)) : Prop :=
  ∃ ao cap, v = .slice ao qs.length cap ∧ (qs ≠ [] → ∃ b o, ao = some ⟨b, o, none⟩ ∧ ∀ i (h : i < qs.length), EvAt w b (o + i * 2) qs[i])
theorem EvAt.up {w w' : World} {b o : Nat} {q : Nat × Nat} (h : EvAt w b o q) (hu : Up w w') : EvAt w' b o q := by
  obtain ⟨h0, h1⟩ := h
  have hb : b < w.heap.size := World.block_lt_of_cell? w _ h0
  exact ⟨(hu.cell (p := ⟨b, o, none⟩) hb).trans h0, (hu.cell (p := ⟨b, o + 1, none⟩) hb).trans h1⟩

theorem pos_of_ne (s : Nat) (h : ((s : Int) == 0) = false) : (0 : Int) < (s : Int) := by
  rcases Nat.eq_zero_or_pos s with e | e
  · subst e; cases h
  · omega

/-- What one call of Admit says about an event, in the words of the law. -/
theorem event_cases (limit span I C now n : Nat) (hl : N64 limit) (hw : N64 now) (hn : N64 n) (hI : N64 I) (hC : N64 C) :
    (∀ w, Calls Try.prog 13 #[V limit, V span, V I, V C, V now, V n] w fun e w' => e = .returned (.tuple #[V I, V C, .bool false]) ∧ w' = w) ∨
    (((span : Int) == 0) = false ∧ ((n : Int) == 0) = false ∧ ¬ (limit : Int) < (n : Int) ∧ ∃ q c D : Nat, N64 q ∧ N64 c ∧ (now : Int) / (span : Int) = (q : Int) ∧ IntKind.u64.wrap (q : Int) = (q : Int) ∧ IntKind.u64.wrap ((limit : Int) - (n : Int)) = (D : Int) ∧ ¬ (q : Int) < (I : Int) ∧
      (∀ w, Calls Try.prog 13 #[V limit, V span, V I, V C, V now, V n] w fun e w' => e = .returned (.tuple #[V q, V c, .bool true]) ∧ w' = w) ∧
      (((I : Int) < (q : Int) ∧ c = n ∧ ¬ (D : Int) < 0 ∧ 0 ≤ D) ∨ (q = I ∧ ¬ (D : Int) < (C : Int) ∧ IntKind.u64.wrap ((C : Int) + (n : Int)) = (c : Int)))) := by
  by_cases h : WFits limit span I C now n
  · right
    obtain ⟨h1, h2, h3⟩ := wfits_iff.1 h
    have k := Admit_fits limit span I C now n hl hw hn h
    unfold N64 at *
    refine ⟨wne_int span (by omega), wne_int n (by omega), by omega, now / span, if now / span = I then C + n else n, limit - n, div_lt64 now span hw, by split <;> omega, wquot now span, wrap_n _ (div_lt64 now span hw), sub_w limit n (by omega) hl, by omega, k, ?_⟩
    rcases h3 with ⟨h3, h4⟩ | ⟨h3, h4⟩
    · left
      refine ⟨by omega, if_neg (by omega), by omega, by omega⟩
    · right
      rw [if_pos h3]
      refine ⟨h3, by omega, ?_⟩
      rw [add_n]
      exact wrap_n _ (by omega)
  · exact Or.inl (Admit_not limit span I C now n hl hw h)

set_option maxRecDepth 20000 in
set_option maxHeartbeats 3200000 in
theorem WindowSums_any (limit span : Nat) (v : Value) (qs : List (Nat × Nat)) (w : World) (hl : N64 limit) (hs : N64 span) (hq : EvIn w v qs) (hlen : (qs.length : Int) ≤ 9223372036854775807) (hok : ∀ q ∈ qs, N64 q.1 ∧ N64 q.2) :
    Calls Try.prog 7 #[V limit, V span, v] w fun e w' => e = .returned (.bool true) ∧ Up w w' := by
  obtain ⟨ao, cap, rfl, hx⟩ := hq
  have Hl : Hid (N64 limit ∧ N64 span) := ⟨hl, hs⟩
  clear hl hs
  go_enter Try.func7, Try.ntmps7
  go_wp2_with fail
  refine (wawake_any _).mono ?_
  rintro e w1 ⟨rfl, u1⟩
  have H1 : Hid (Up w w1) := u1
  clear u1
  go_wp2
  go_loopg [8, 9, 10, 11, 12] qs.length (fun g ix ct sm nw i wr => ∃ k I C : Nat, k ≤ qs.length ∧ g = qs.length - k ∧ ix = V I ∧ ct = V C ∧ sm = V C ∧ nw = V I ∧ Hid (N64 I ∧ N64 C) ∧ i = .int .i64 k ∧ Hid (Up w wr))
  case atStart => exact ⟨0, 0, 0, by omega, rfl, rfl, rfl, rfl, rfl, (⟨by unfold N64; omega, by unfold N64; omega⟩ : N64 0 ∧ N64 0), rfl, H1.out⟩
  case round =>
    obtain ⟨k, I, C, hk, rfl, rfl, rfl, rfl, rfl, hT, rfl, hup⟩ := hrel
    by_cases hlt : k < qs.length
    · obtain ⟨b, o, rfl, hcell⟩ := hx (by rintro rfl; simp at hlt)
      have hpa := (hcell k hlt).up hup.out
      have hpf := hok _ (List.getElem_mem hlt)
      have Hlt : Hid (k < qs.length) := hlt
      generalize qs[k]'hlt = q at hpa hpf
      obtain ⟨now, n⟩ := q
      obtain ⟨h0, h1⟩ := hpa
      obtain ⟨l0, l1⟩ := hpf
      simp only at h0 h1 l0 l1
      have hev := event_cases limit span I C now n Hl.out.1 l0 l1 hT.out.1 hT.out.2
      clear hcell hx hok H1 l0 l1
      rcases hev with k1 | ⟨z1, z2, c1, q, c, D, nq, nc, d1, d2, d3, c2, k1, ⟨c3, rfl, c4, c5⟩ | ⟨rfl, c3, d4⟩⟩
      · go_wp2_with fail
        go_at_call 13
        refine (k1 _).mono ?_
        rintro e w3 ⟨rfl, rfl⟩
        clear k1
        have H5 : Hid (Up w (wr.alloc (.cells #[V now, V n] 38))) := hup.out.trans (Up.alloc _ _)
        go_wp2
        go_roundg (qs.length - (k + 1))
        case measure => have := Hlt.out; omega
        case rel => exact ⟨k + 1, I, C, Hlt.out, rfl, rfl, rfl, rfl, rfl, hT, by go_num, H5⟩
      · have HT : Hid (N64 q ∧ N64 c) := ⟨nq, nc⟩
        have z3 := pos_of_ne span z1
        have z4 : (0 : Int) ≤ (now : Int) := by omega
        have d5 : IntKind.u64.wrap (c : Int) = (c : Int) := wrap_n c nc
        clear nq nc hT Hl
        go_wp2_with fail
        go_at_call 13
        refine (k1 _).mono ?_
        rintro e w3 ⟨rfl, rfl⟩
        clear k1
        have H5 : Hid (Up w (wr.alloc (.cells #[V now, V c] 38))) := hup.out.trans (Up.alloc _ _)
        go_wp2
        go_roundg (qs.length - (k + 1))
        case measure => have := Hlt.out; omega
        case rel => exact ⟨k + 1, q, c, Hlt.out, rfl, rfl, rfl, rfl, rfl, HT, by go_num, H5⟩
      · have HT : Hid (N64 q ∧ N64 c) := ⟨nq, nc⟩
        have z3 := pos_of_ne span z1
        have z4 : (0 : Int) ≤ (now : Int) := by omega
        clear nq nc hT Hl
        go_wp2_with fail
        go_at_call 13
        refine (k1 _).mono ?_
        rintro e w3 ⟨rfl, rfl⟩
        clear k1
        have H5 : Hid (Up w (wr.alloc (.cells #[V now, V n] 38))) := hup.out.trans (Up.alloc _ _)
        go_wp2
        go_roundg (qs.length - (k + 1))
        case measure => have := Hlt.out; omega
        case rel => exact ⟨k + 1, q, c, Hlt.out, rfl, rfl, rfl, rfl, rfl, HT, by go_num, H5⟩
    · obtain rfl : k = qs.length := by omega
      clear hx hlt hok H1
      go_wp2
      go_ret
      exact ⟨rfl, hup.out⟩
end Go.Proofs.Ytdopbnmmcjofmaa

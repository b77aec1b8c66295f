/- The law WindowAll returns true for every row of calls, and changes nothing that was there. -/
import Derived.Test.YtdopbnmmcjofmaaWnRef
import Derived.Deep.LoopGhost
set_option linter.unusedVariables false
namespace Go.Proofs.Ytdopbnmmcjofmaa
open Go Go.RowKit

theorem up_same {P : Program} {f : FuncId} {args : Array Value} {w : World} {v : Value} (h : Calls P f args w fun e w' => e = .returned v ∧ w' = w) : Calls P f args w fun e w' => e = .returned v ∧ Up w w' :=
  h.mono fun _ _ ⟨he, hw⟩ => ⟨he, hw ▸ Up.refl _⟩

set_option maxHeartbeats 1600000 in
theorem plays_index (limit span index count now n : Nat) (hw : N64 now) (w : World) :
    Calls Try.prog 9 #[Ow 1 limit span index count now n] w fun e w' => e = .returned (.bool true) ∧ Up w w' := by
  have k1 := fun w => Index_any span now hw w
  have k2 := fun w => rIndex_any span now hw w
  generalize now / span = q at *
  clear hw
  go_enter Try.func9, Try.ntmps9
  go_wp2_with fail
  refine (k1 _).mono ?_
  rintro e w1 ⟨rfl, rfl⟩
  clear k1
  go_wp2_with fail
  refine (k2 _).mono ?_
  rintro e w2 ⟨rfl, rfl⟩
  clear k2
  go_wp2
  go_ret
  exact ⟨rfl, Up.alloc _ _⟩

set_option maxHeartbeats 1600000 in
theorem plays_start (limit span index count now n : Nat) (hs : N64 span) (hi : N64 index) (w : World) :
    Calls Try.prog 9 #[Ow 2 limit span index count now n] w fun e w' => e = .returned (.bool true) ∧ Up w w' := by
  have k1 := fun w => Start_any span index hs hi w
  have k2 := fun w => rStart_any span index hs w
  generalize wStart span index = q at *
  clear hs hi
  go_enter Try.func9, Try.ntmps9
  go_wp2_with fail
  have hs := o7_new w 2 limit span index count now n
  generalize w.heap.size = g at hs ⊢
  generalize w.alloc (.cells #[.int .i64 2, V limit, V span, V index, V count, V now, V n] 27) = w0 at hs ⊢
  obtain ⟨a0, a1, a2, a3, a4, a5, a6, hu⟩ := hs
  refine (k1 _).mono ?_
  rintro e w1 ⟨rfl, u1⟩
  have hs := o7_grow ⟨a0, a1, a2, a3, a4, a5, a6, hu⟩ u1
  clear a0 a1 a2 a3 a4 a5 a6 hu u1 k1
  obtain ⟨a0, a1, a2, a3, a4, a5, a6, hu⟩ := hs
  go_wp2_with fail
  refine (k2 _).mono ?_
  rintro e w2 ⟨rfl, rfl⟩
  clear k2
  go_wp2
  go_ret
  exact ⟨rfl, hu⟩

set_option maxHeartbeats 1600000 in
theorem plays_admit (limit span index count now n : Nat) (hl : N64 limit) (hw : N64 now) (hn : N64 n) (w : World) :
    Calls Try.prog 9 #[Ow 3 limit span index count now n] w fun e w' => e = .returned (.bool true) ∧ Up w w' := by
  have k1 := fun w => wAdmit_any limit span index count now n hl hw hn w
  have k2 := fun w => rAdmit_any5 limit span index count now n hl hw hn w
  generalize wIx limit span index count now n = I at *
  generalize wCt limit span index count now n = C at *
  generalize decide (WFits limit span index count now n) = o at *
  clear hl hw hn
  go_enter Try.func9, Try.ntmps9
  go_wp2_with fail
  refine (k1 _).mono ?_
  rintro e w1 ⟨rfl, rfl⟩
  clear k1
  go_wp2_with fail
  refine (k2 _).mono ?_
  rintro e w2 ⟨rfl, rfl⟩
  clear k2
  go_wp2
  go_ret
  exact ⟨rfl, Up.alloc _ _⟩

set_option maxHeartbeats 1600000 in
theorem plays_retry (limit span index count now n : Nat) (hl : N64 limit) (hs : N64 span) (hi : N64 index) (hw : N64 now) (hn : N64 n) (w : World) :
    Calls Try.prog 9 #[Ow 4 limit span index count now n] w fun e w' => e = .returned (.bool true) ∧ Up w w' := by
  have k1 := fun w => wRetry_any limit span index count now n hl hs hi hw w
  have k2 := fun w => rRetry_any5 limit span index count now n hl hs hi hw hn w
  generalize wRetry limit span index count now n = q at *
  clear hl hs hi hw hn
  go_enter Try.func9, Try.ntmps9
  go_wp2_with fail
  have hs := o7_new w 4 limit span index count now n
  generalize w.heap.size = g at hs ⊢
  generalize w.alloc (.cells #[.int .i64 4, V limit, V span, V index, V count, V now, V n] 27) = w0 at hs ⊢
  obtain ⟨a0, a1, a2, a3, a4, a5, a6, hu⟩ := hs
  refine (k1 _).mono ?_
  rintro e w1 ⟨rfl, u1⟩
  have hs := o7_grow ⟨a0, a1, a2, a3, a4, a5, a6, hu⟩ u1
  clear a0 a1 a2 a3 a4 a5 a6 hu u1 k1
  obtain ⟨a0, a1, a2, a3, a4, a5, a6, hu⟩ := hs
  go_wp2_with fail
  refine (k2 _).mono ?_
  rintro e w2 ⟨rfl, rfl⟩
  clear k2
  go_wp2
  go_ret
  exact ⟨rfl, hu⟩

set_option maxHeartbeats 1600000 in
theorem plays_left (limit span index count now n : Nat) (hl : N64 limit) (hw : N64 now) (w : World) :
    Calls Try.prog 9 #[Ow 5 limit span index count now n] w fun e w' => e = .returned (.bool true) ∧ Up w w' := by
  have k1 := fun w => Left_any limit span index count now hl hw w
  have k2 := fun w => rLeft_any limit span index count now hl hw w
  generalize wLeft limit span index count now = q at *
  clear hl hw
  go_enter Try.func9, Try.ntmps9
  go_wp2_with fail
  refine (k1 _).mono ?_
  rintro e w1 ⟨rfl, rfl⟩
  clear k1
  go_wp2_with fail
  refine (k2 _).mono ?_
  rintro e w2 ⟨rfl, rfl⟩
  clear k2
  go_wp2
  go_ret
  exact ⟨rfl, Up.alloc _ _⟩

set_option maxHeartbeats 800000 in
theorem plays_none (kind : Int) (limit span index count now n : Nat) (h1 : (kind == 1) = false) (h2 : (kind == 2) = false) (h3 : (kind == 3) = false) (h4 : (kind == 4) = false) (h5 : (kind == 5) = false) (w : World) :
    Calls Try.prog 9 #[Ow kind limit span index count now n] w fun e w' => e = .returned (.bool true) ∧ Up w w' := by
  go_enter Try.func9, Try.ntmps9
  go_wp2
  go_ret
  exact ⟨rfl, Up.alloc _ _⟩

theorem plays_any (kind : Int) (limit span index count now n : Nat) (hl : N64 limit) (hs : N64 span) (hi : N64 index) (hw : N64 now) (hn : N64 n) (w : World) :
    Calls Try.prog 9 #[Ow kind limit span index count now n] w fun e w' => e = .returned (.bool true) ∧ Up w w' := by
  by_cases h1 : kind = 1
  · subst h1; exact plays_index limit span index count now n hw w
  · by_cases h2 : kind = 2
    · subst h2; exact plays_start limit span index count now n hs hi w
    · by_cases h3 : kind = 3
      · subst h3; exact plays_admit limit span index count now n hl hw hn w
      · by_cases h4 : kind = 4
        · subst h4; exact plays_retry limit span index count now n hl hs hi hw hn w
        · by_cases h5 : kind = 5
          · subst h5; exact plays_left limit span index count now n hl hw w
          · exact plays_none kind limit span index count now n (beq_false_of_ne h1) (beq_false_of_ne h2) (beq_false_of_ne h3) (beq_false_of_ne h4) (beq_false_of_ne h5) w

/-- An Op's kind and six numbers. -/
structure OpN where
  kind : Int
  limit : Nat
  span : Nat
  index : Nat
  count : Nat
  now : Nat
  n : Nat
def OpN.Ok (q : OpN) : Prop := N64 q.limit ∧ N64 q.span ∧ N64 q.index ∧ N64 q.count ∧ N64 q.now ∧ N64 q.n
def OpAt (w : World) (b o : Nat) (q : OpN) : Prop := w.cell? ⟨b, o, none⟩ = some (.int .i64 q.kind) ∧ w.cell? ⟨b, o + 1, none⟩ = some (V q.limit) ∧ w.cell? ⟨b, o + 2, none⟩ = some (V q.span) ∧ w.cell? ⟨b, o + 3, none⟩ = some (V q.index) ∧ w.cell? ⟨b, o + 4, none⟩ = some (V q.count) ∧ w.cell? ⟨b, o + 5, none⟩ = some (V q.now) ∧ w.cell? ⟨b, o + 6, none⟩ = some (V q.n)
def OpsIn (w : World) (v : Value) (qs : List OpN) : Prop :=
  ∃ ao cap, v = .slice ao qs.length cap ∧ (qs ≠ [] → ∃ b o, ao = some ⟨b, o, none⟩ ∧ ∀ i (h : i < qs.length), OpAt w b (o + i * 7) qs[i])
theorem OpAt.up {w w' : World} {b o : Nat} {q : OpN} (h : OpAt w b o q) (hu : Up w w') : OpAt w' b o q := by
  obtain ⟨h0, h1, h2, h3, h4, h5, h6⟩ := h
  have hb : b < w.heap.size := World.block_lt_of_cell? w _ h0
  exact ⟨(hu.cell (p := ⟨b, o, none⟩) hb).trans h0, (hu.cell (p := ⟨b, o + 1, none⟩) hb).trans h1, (hu.cell (p := ⟨b, o + 2, none⟩) hb).trans h2, (hu.cell (p := ⟨b, o + 3, none⟩) hb).trans h3, (hu.cell (p := ⟨b, o + 4, none⟩) hb).trans h4, (hu.cell (p := ⟨b, o + 5, none⟩) hb).trans h5, (hu.cell (p := ⟨b, o + 6, none⟩) hb).trans h6⟩

set_option maxHeartbeats 1600000 in
theorem WindowAll_any (v : Value) (qs : List OpN) (w : World) (hq : OpsIn w v qs) (hlen : (qs.length : Int) ≤ 9223372036854775807) (hok : ∀ q ∈ qs, q.Ok) :
    Calls Try.prog 3 #[v] w fun e w' => e = .returned (.bool true) ∧ Up w w' := by
  obtain ⟨ao, cap, rfl, hx⟩ := hq
  go_enter Try.func3, Try.ntmps3
  go_wp2_with fail
  refine (wawake_any _).mono ?_
  rintro e w1 ⟨rfl, u1⟩
  have H1 : Hid (Up w w1) := u1
  clear u1
  go_wp2
  go_loopg [3, 4] qs.length (fun g ok i wr => ∃ k : Nat, k ≤ qs.length ∧ g = qs.length - k ∧ ok = .bool true ∧ i = .int .i64 k ∧ Hid (Up w wr))
  case atStart => exact ⟨0, by omega, rfl, rfl, rfl, H1.out⟩
  case round =>
    obtain ⟨k, hk, rfl, rfl, rfl, hup⟩ := hrel
    by_cases hlt : k < qs.length
    · obtain ⟨b, o, rfl, hcell⟩ := hx (by rintro rfl; simp at hlt)
      have hpa := (hcell k hlt).up hup.out
      have hpf := hok _ (List.getElem_mem hlt)
      have Hlt : Hid (k < qs.length) := hlt
      generalize qs[k]'hlt = q at hpa hpf
      obtain ⟨kind, limit, span, index, count, now, n⟩ := q
      obtain ⟨h0, h1, h2, h3, h4, h5, h6⟩ := hpa
      obtain ⟨l0, l1, l2, l3, l4, l5⟩ := hpf
      simp only at h0 h1 h2 h3 h4 h5 h6 l0 l1 l2 l3 l4 l5
      have k1 := plays_any kind limit span index count now n l0 l1 l2 l4 l5
      clear hcell hx hok H1 l0 l1 l2 l3 l4 l5
      go_wp2_with fail
      refine (k1 _).mono ?_
      rintro e w3 ⟨rfl, u3⟩
      have H5 : Hid (Up w w3) := hup.out.trans u3
      clear k1 u3 hup h0 h1 h2 h3 h4 h5 h6
      go_wp2
      go_roundg (qs.length - (k + 1))
      case measure => have := Hlt.out; omega
      case rel => exact ⟨k + 1, Hlt.out, rfl, rfl, by go_num, H5⟩
    · obtain rfl : k = qs.length := by omega
      clear hx hlt hok H1
      go_wp2
      go_ret
      exact ⟨rfl, hup.out⟩
end Go.Proofs.Ytdopbnmmcjofmaa

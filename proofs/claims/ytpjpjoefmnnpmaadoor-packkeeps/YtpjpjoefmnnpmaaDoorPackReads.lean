/- The law PackReads returns true for every bytes and every row of calls, and changes nothing that was there, where the package variables of errors hold their errors. -/
import Derived.Test.YtpjpjoefmnnpmaaDoorReads
set_option linter.unusedVariables false
namespace Go.Proofs.YtpjpjoefmnnpmaaDoor
open Go Go.RowKit

/-- A slice of ints. -/
def Ints (w : World) (v : Value) (zs : List Int) : Prop :=
  ∃ ao cap, v = .slice ao zs.length cap ∧ (zs ≠ [] → ∃ b o, ao = some ⟨b, o, none⟩ ∧ ∀ i (h : i < zs.length), w.cell? ⟨b, o + i, none⟩ = some (.int .i64 zs[i]))

set_option maxHeartbeats 1600000 in
theorem PackReads_any (v vk : Value) (bs : List UInt8) (zs : List Int) (w : World) (txt : Nat → List UInt8) (ad : Nat → Addr) (hs : Sl 0 w v bs) (hl : bs.length ≤ 140737488351232) (hk : Ints w vk zs) (hzl : zs.length ≤ 140737488351232) (h : ErrSet allErrs txt w ad) (hu : Unlike txt) :
    Calls Tryd.prog 4 #[v, vk] w fun e w' => e = .returned (.bool true) ∧ Up w w' := by
  have he := h.errs (by decide) (by decide) (by decide)
  obtain ⟨ak, ck, rfl, hkx⟩ := hk
  go_enter Tryd.func4, Tryd.ntmps4
  go_wp2_with fail
  refine (lives_any _ _ _ _ he).mono ?_
  rintro e w1 ⟨rfl, hu1⟩
  go_wp2_with fail
  refine (NewReader_any 0 v bs _ (hs.up hu1) hl).mono ?_
  rintro e w2 ⟨r, rfl, hr2, hrd2, hu2⟩
  go_wp2_with fail
  refine (rNewReader_any 0 v bs _ ((hs.up hu1).up hu2) hl).mono ?_
  rintro e w3 ⟨s, rfl, hs3, hrs3, hu3⟩
  have hU : Up w w3 := (hu1.trans hu2).trans hu3
  have h3 := h.up hU
  have hrd3 := hrd2.up hu3
  have hr0 : w.heap.size ≤ r := Nat.le_trans hu1.size hr2
  have hs0 : w.heap.size ≤ s := Nat.le_trans (hu1.trans hu2).size hs3
  clear hr2 hrd2 hs3 hu1 hu2 hu3 he
  generalize w1.heap.size = b1 at hrd3
  generalize w2.heap.size = b2 at hrs3
  go_wp2_with fail
  refine (told_any b1 b2 r s bs 0 txt ad _ h3 hu (.inl rfl) hrd3 hrs3).mono ?_
  rintro e w4 ⟨rfl, rfl⟩
  go_wp2_with fail
  go_loopw [9] (fun i wr => ∃ (k : Nat), k ≤ zs.length ∧ i = .int .i64 k ∧ Side w.heap.size b1 b2 r s ad txt bs.length w wr) (fun i _ => zs.length - (intOf i).toNat)
  case atStart => exact ⟨0, Nat.zero_le _, rfl, bs, 0, Nat.le_refl _, .inl rfl, hrd3, hrs3, h3, hU⟩
  case round =>
    obtain ⟨k, hk, rfl, bs', c', hl', hc', hr', hs', he', hb'⟩ := hrel
    by_cases hlt : k < zs.length
    · obtain ⟨b, o, rfl, hcell⟩ := hkx (by rintro rfl; simp at hlt)
      have hck : ∀ u, Below w.heap.size w u → u.cell? ⟨b, o + k, none⟩ = some (.int .i64 (zs[k]'hlt)) := by
        intro u hbu
        have h1 := hcell k hlt
        have h2 := World.block_lt_of_cell? w _ h1
        rw [hbu.cell (p := ⟨b, o + k, none⟩) h2]; exact h1
      have c1 := hck wr hb'
      generalize hz : zs[k]'hlt = z at c1 hck
      clear hz
      have Hck : Hid _ := hck
      clear hck hcell hkx
      go_wp2_with fail
      refine (takes_any w.heap.size b1 b2 r s bs' c' z bs.length txt ad _ he' hc' hl' (by omega) hr' hs' hr0 hs0 hb'.size).mono ?_
      rintro e w5 ⟨rfl, bs2, c2, hl2, hc2, hr5, hs5, he5, hb5⟩
      have hb6 := hb'.trans hb5
      have c5 := Hck.out w5 hb6
      clear hr' hs' he' c1
      go_wp2_with fail
      refine (told_any b1 b2 r s bs2 c2 txt ad _ he5 hu hc2 hr5 hs5).mono ?_
      rintro e w6 ⟨rfl, rfl⟩
      go_wp2_with fail
      refine (takes_nil z _).mono ?_
      rintro e w7 ⟨rfl, rfl⟩
      go_wp2
      go_roundw
      case rel => exact ⟨k + 1, by omega, by go_num, bs2, c2, hl2, hc2, hr5, hs5, he5, hb6⟩
      case measure => simp [intOf]; omega
    · clear hkx hs
      go_wp2_with fail
      refine (told_nil txt ad _ he' hu).mono ?_
      rintro e w7 ⟨rfl, rfl⟩
      go_wp2
      go_ret
      exact ⟨rfl, hb'⟩
end Go.Proofs.YtpjpjoefmnnpmaaDoor

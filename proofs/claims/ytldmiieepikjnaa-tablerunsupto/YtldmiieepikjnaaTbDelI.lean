/- table: Delete of a table of ints. Laid by genTree.py out of tree9.src. Own work. -/
import Derived.Test.YtldmiieepikjnaaTbPutI
set_option linter.unusedVariables false
set_option linter.unusedSimpArgs false
namespace Go.Proofs.Ytldmiieepikjnaa
open Go Go.RowKit

set_option maxHeartbeats 4000000 in
set_option maxRecDepth 20000 in
theorem DeleteI_any (k : ByteArray) (b : Nat) (lim : Int) (xs : List (KV Int)) (w : World) (h : TabI w b lim xs) (hb : xs.length ≤ 1152921504606846975) :
    Calls Try.prog 16 #[.pointer (some ⟨b, 0, none⟩), .string k] w fun e w' => e = .returned (.bool (getL k xs).isSome) ∧ TabI w' b lim (if (getL k xs).isSome then delL k xs else xs) ∧ Touch w w' [b] := by
  obtain ⟨t, h1, h2, rfl, h4⟩ := h
  obtain ⟨c0, c1, c2, f1, f2⟩ := cells3 h1
  have q := findI_any t k w h2
  have hlk := look_get t k h4
  cases hx : t.look k with
  | some x =>
    obtain ⟨p, k0, v0⟩ := x
    rw [hx] at q hlk
    have hgs : getL k t.els = some v0 := hlk.symm
    have qW := withoutI_any t k v0 w h2 h4 hgs hb
    have hlen : (delL k t.els).length + 1 = t.els.length := length_del h4 hgs
    rw [hgs]
    change Calls _ _ _ _ fun e w' => e = .returned (.bool true) ∧ TabI w' b lim (delL k t.els) ∧ Touch w w' [b]
    change Calls _ _ _ _ fun e w' => e = .returned (.pointer (some ⟨p, 0, none⟩)) ∧ w' = w at q
    have hst : ∀ {w1 : World}, Up w w1 → w1.cell? ⟨b, 1, none⟩ = some (.int .i64 (t.els.length : Int)) ∧ w1.frozen? ⟨b, 1, none⟩ = false ∧ w1.cell? ⟨b, 2, none⟩ = some (.pointer t.ptr) ∧ w1.frozen? ⟨b, 2, none⟩ = false := fun u => ⟨(cells3fI h1 u).2.1, (cells3fI h1 u).2.2.2.1, (cells3fI h1 u).2.2.1, (cells3fI h1 u).2.2.2.2⟩
    obtain ⟨N, hN⟩ : ∃ N, t.els.length = N := ⟨_, rfl⟩
    obtain ⟨M, hM⟩ : ∃ M, (delL k t.els).length = M := ⟨_, rfl⟩
    rw [hN] at hb hlen c1 h1 hst
    rw [hM] at hlen
    have hwr : IntKind.i64.wrap ((N : Int) - 1) = (M : Int) := by rw [IntKind.wrap_i64]; omega
    have hNb : (N : Int) ≤ 1152921504606846975 := by omega
    have hNm : (N : Int) - 1 = (M : Int) := by omega
    have fin : ∀ {w1 : World} {t' : Tr Int}, TI w1 t' → t'.els = delL k t.els → Up w w1 → TabI ((w1.setCell ⟨b, 2, none⟩ (.pointer t'.ptr)).setCell ⟨b, 1, none⟩ (.int .i64 (M : Int))) b lim (delL k t.els) ∧ Touch w ((w1.setCell ⟨b, 2, none⟩ (.pointer t'.ptr)).setCell ⟨b, 1, none⟩ (.int .i64 (M : Int))) [b] := fun {w1 t'} g1 g2 g3 =>
      have r := TabI.counted (c' := .int .i64 (M : Int)) (TabI.rooted h1 g3 g1)
      ⟨⟨t', by rw [hM]; exact r.1, r.2.1, g2, srt_del h4 _⟩, r.2.2⟩
    clear h2 h4 hlk hx hb hgs hlen hM hN h1
    go_enter Try.func16, Try.ntmps16
    go_wp2_with (first
      | (go_at_call 44; refine q.mono ?_; clear q; rintro e w1 ⟨rfl, hw⟩; obtain rfl : w = w1 := hw.symm)
      | (go_at_call 49; refine qW.mono ?_; clear qW; rintro e w2 ⟨t2, rfl, t1, y1, u3⟩; obtain ⟨z1, z2, z3, z4⟩ := hst u3; have hx1 : (w2.setCell ⟨b, 2, none⟩ (.pointer t2.ptr)).cell? ⟨b, 1, none⟩ = some (.int .i64 (N : Int)) := (World.cell?_setCell_other _ _ _ _ (by simp)).trans z1))
    go_ret
    exact ⟨rfl, fin t1 y1 u3⟩
  | none =>
    rw [hx] at q hlk
    have hgs : getL k t.els = none := hlk.symm
    rw [hgs]
    change Calls _ _ _ _ fun e w' => e = .returned (.pointer none) ∧ w' = w at q
    change Calls _ _ _ _ fun e w' => e = .returned (.bool false) ∧ TabI w' b lim t.els ∧ Touch w w' [b]
    have fin : ∀ {w1 : World}, Up w w1 → TabI w1 b lim t.els ∧ Touch w w1 [b] := fun u => ⟨TabI.up ⟨t, h1, h2, rfl, h4⟩ u, Touch.of_up u _⟩
    clear h2 h4 hlk hx hb hgs h1 f1 f2 c1
    go_enter Try.func16, Try.ntmps16
    go_wp2_with (go_at_call 44; refine q.mono ?_; clear q; rintro e w1 ⟨rfl, hw⟩; obtain rfl : w = w1 := hw.symm)
    go_ret
    exact ⟨rfl, fin (Up.refl _)⟩
end Go.Proofs.Ytldmiieepikjnaa

/- state: Find, by the library's search over entries. Own work. -/
import Derived.Test.YtdddfapelencoaaDoorStRow
import Derived.Test.YtdddfapelencoaaDoorShelf
import Derived.Test.YtdddfapelencoaaDoorLkD
import Derived.Deep.LoopGhost
import Derived.BigQuiet
import Derived.Deep.QuietTactic
set_option linter.unusedVariables false
set_option linter.unusedSimpArgs false
namespace Go.Proofs.YtdddfapelencoaaDoor
open Go Go.RowKit

/-- How two keys compare. -/
def cmpK (a b : ByteArray) : Int := Lib.compareBytes a.data.toList b.data.toList
theorem cmpL_lt : ∀ (a b : List UInt8), Lib.compareBytes a b < 0 ↔ a < b
  | [], [] => by simp [Lib.compareBytes]
  | [], _ :: _ => by simp [Lib.compareBytes]
  | _ :: _, [] => by simp [Lib.compareBytes]
  | a :: ra, b :: rb => by
    unfold Lib.compareBytes
    rw [List.cons_lt_cons_iff]
    by_cases h : a < b
    · simp [h]
    · by_cases h2 : b < a
      · rw [if_neg h, if_pos h2]
        refine ⟨fun q => by omega, fun q => ?_⟩
        rcases q with q | q
        · exact absurd q h
        · exact absurd (q.1 ▸ h2) (by simp)
      · rw [if_neg h, if_neg h2, cmpL_lt ra rb]
        have e : a = b := UInt8.le_antisymm (UInt8.not_lt.1 h2) (UInt8.not_lt.1 h)
        simp [e]
theorem cmpL_eq0 : ∀ (a b : List UInt8), Lib.compareBytes a b = 0 ↔ a = b
  | [], [] => by simp [Lib.compareBytes]
  | [], _ :: _ => by simp [Lib.compareBytes]
  | _ :: _, [] => by simp [Lib.compareBytes]
  | a :: ra, b :: rb => by
    unfold Lib.compareBytes
    by_cases h : a < b
    · rw [if_pos h]
      refine ⟨fun q => by omega, fun q => ?_⟩
      rw [(List.cons.inj q).1] at h
      exact absurd h (by simp)
    · by_cases h2 : b < a
      · rw [if_neg h, if_pos h2]
        refine ⟨fun q => by omega, fun q => ?_⟩
        rw [(List.cons.inj q).1] at h2
        exact absurd h2 (by simp)
      · have e : a = b := UInt8.le_antisymm (UInt8.not_lt.1 h2) (UInt8.not_lt.1 h)
        rw [if_neg h, if_neg h2, cmpL_eq0 ra rb]
        simp [e]
theorem cmpK_lt (a b : ByteArray) : cmpK a b < 0 ↔ kl a b = true := by rw [kl_iff]; exact cmpL_lt _ _
theorem cmpK_eq (a b : ByteArray) : cmpK a b = 0 ↔ a = b := by
  unfold cmpK
  rw [cmpL_eq0]
  exact ⟨fun h => ByteArray.ext (Array.ext' h), fun h => by rw [h]⟩

theorem findCmp_any (x : Ent) (k : ByteArray) (w : World) : Calls Tryd.prog 27 #[EV x, .string k] w fun e w' => e = .returned (.int .i64 (cmpK x.1 k)) ∧ Up w w' := by
  have hc := fun u => Tryd.strings_Compare x.1 k u
  obtain ⟨c, hcc⟩ : ∃ c, cmpK x.1 k = c := ⟨_, rfl⟩
  have hc' : ∀ u, Calls Tryd.prog 28 #[.string x.1, .string k] u fun e w' => e = .returned (.int .i64 c) ∧ w' = u := fun u => by rw [← hcc]; exact hc u
  rw [hcc]
  clear hc hcc
  go_enter Tryd.func27, Tryd.ntmps27
  go_wp2_with fail
  refine (hc' _).mono ?_
  rintro e w1 ⟨rfl, rfl⟩
  go_wp2
  go_ret
  exact ⟨rfl, Up.alloc _ _⟩

set_option maxRecDepth 20000 in
set_option maxHeartbeats 1600000 in
theorem search_any (ao : Option Addr) (cap : Nat) (xs : List Ent) (k : ByteArray) (w : World) (hx : xs ≠ [] → ∃ b o, ao = some ⟨b, o, none⟩ ∧ EntsAt w b o xs) (hl : xs.length ≤ 4611686018427387903) :
    Calls Tryd.prog 26 #[.slice ao xs.length cap, .string k, .func (.func 27) #[] #[]] w fun e w' =>
      ∃ (i : Nat) (o : Bool), e = .returned (.tuple #[.int .i64 (i : Int), .bool o]) ∧ (i ≤ xs.length ∧ (Srt xs → i = pl k xs ∧ o = (getL k xs).isSome)) ∧ Up w w' := by
  obtain ⟨N, hN⟩ : ∃ N, xs.length = N := ⟨_, rfl⟩
  have HN : Hid (xs.length = N) := hN
  have HX : Hid (xs ≠ [] → ∃ b o, ao = some ⟨b, o, none⟩ ∧ EntsAt w b o xs) := hx
  rw [hN] at hl ⊢
  clear hN hx
  have at1 : Srt xs → ∀ i (hi : i < xs.length), (cmpK xs[i].1 k < 0 ↔ i < pl k xs) := fun hs i hi => by rw [cmpK_lt, at_pl hs k i hi, decide_eq_true_eq]
  have AT : Hid (Srt xs → ∀ i (hi : i < xs.length), (cmpK xs[i].1 k < 0 ↔ i < pl k xs)) := at1
  clear at1
  go_enter Tryd.func26, Tryd.ntmps26
  go_wp2
  go_loopg [9, 10] N (fun kx s9 s10 wr => ∃ lo hi : Nat, s9 = .int .i64 lo ∧ s10 = .int .i64 hi ∧ lo ≤ hi ∧ hi ≤ N ∧ hi - lo ≤ kx ∧ Hid (Up w wr) ∧ Hid (Srt xs → lo ≤ pl k xs ∧ pl k xs ≤ hi))
  case atStart => exact ⟨0, N, rfl, rfl, Nat.zero_le _, Nat.le_refl _, by omega, Up.refl _, fun _ => ⟨Nat.zero_le _, by rw [← HN.out]; exact pl_le _ _⟩⟩
  case round =>
    obtain ⟨lo, hi, rfl, rfl, hlh, hin, hg, HU, HI⟩ := hrel
    by_cases hlt : lo < hi
    · have hm : (lo + hi) / 2 < xs.length := by rw [HN.out]; omega
      obtain ⟨b, o, rfl, ha⟩ := HX.out (by rintro rfl; simp at hm)
      obtain ⟨c0, c1, c2, c3, c4, c5, c6, c7, c8⟩ := (ha.block fun hl => HU.out.block b hl).at _ hm
      have at2 : Hid (Srt xs → (cmpK xs[(lo + hi) / 2].1 k < 0 ↔ (lo + hi) / 2 < pl k xs)) := fun hs => AT.out hs _ hm
      generalize xs[(lo + hi) / 2] = x at c0 c1 c2 c3 c4 c5 c6 c7 c8 at2
      have hc := fun u => findCmp_any x k u
      obtain ⟨z, hz⟩ : ∃ z, cmpK x.1 k = z := ⟨_, rfl⟩
      rw [hz] at hc at2
      obtain ⟨S, ⟨pk, pg, ps, pq, pp⟩, lt, li, lc⟩ := x
      simp only at c0 c1 c2 c3 c4 c5 c6 c7 c8 hc
      clear ha hm hz
      by_cases hyx : z < 0
      · go_wp2_with fail
        refine (hc _).mono ?_
        rintro e w' ⟨rfl, u1⟩
        go_wp2
        go_roundg (hi - ((lo + hi) / 2 + 1))
        case measure => omega
        case rel =>
          exact ⟨(lo + hi) / 2 + 1, hi, by rw [show ((lo : Int) + (hi : Int)) / 2 + 1 = (((lo + hi) / 2 + 1 : Nat) : Int) by omega], rfl, by omega, hin, Nat.le_refl _, Up.trans HU.out u1, fun hs => ⟨(at2.out hs).1 hyx, (HI.out hs).2⟩⟩
      · go_wp2_with fail
        refine (hc _).mono ?_
        rintro e w' ⟨rfl, u1⟩
        go_wp2
        go_roundg ((lo + hi) / 2 - lo)
        case measure => omega
        case rel =>
          exact ⟨lo, (lo + hi) / 2, rfl, by rw [show ((lo : Int) + (hi : Int)) / 2 = (((lo + hi) / 2 : Nat) : Int) by omega], by omega, by omega, Nat.le_refl _, Up.trans HU.out u1, fun hs => ⟨(HI.out hs).1, Nat.not_lt.1 fun q => by have := (at2.out hs).2 q; omega⟩⟩
    · obtain rfl : hi = lo := by omega
      by_cases hn : hi < N
      · have hm : hi < xs.length := by rw [HN.out]; exact hn
        obtain ⟨b, o, rfl, ha⟩ := HX.out (by rintro rfl; simp at hm)
        obtain ⟨c0, c1, c2, c3, c4, c5, c6, c7, c8⟩ := (ha.block fun hl => HU.out.block b hl).at _ hm
        have at2 : Hid (Srt xs → hi = pl k xs ∧ decide (cmpK xs[hi].1 k = 0) = (getL k xs).isSome) := fun hs => by
          have e : hi = pl k xs := by have := HI.out hs; omega
          subst e
          refine ⟨rfl, ?_⟩
          rw [(here_pl hs k hm).1]
          exact decide_eq_decide.2 (cmpK_eq _ _)
        generalize xs[hi] = x at c0 c1 c2 c3 c4 c5 c6 c7 c8 at2
        have hc := fun u => findCmp_any x k u
        obtain ⟨z, hz⟩ : ∃ z, cmpK x.1 k = z := ⟨_, rfl⟩
        rw [hz] at hc at2
        obtain ⟨S, ⟨pk, pg, ps, pq, pp⟩, lt, li, lc⟩ := x
        simp only at c0 c1 c2 c3 c4 c5 c6 c7 c8 hc
        clear ha hm hz
        by_cases hyx : z = 0
        · subst hyx
          go_wp2_with fail
          refine (hc _).mono ?_
          rintro e w' ⟨rfl, u1⟩
          go_wp2
          go_ret2
          exact ⟨hi, true, rfl, ⟨hin, fun hs => by have := at2.out hs; simpa using this⟩, Up.trans HU.out u1⟩
        · have hz0 : (z == 0) = false := by simpa using hyx
          go_wp2_with fail
          refine (hc _).mono ?_
          rintro e w' ⟨rfl, u1⟩
          go_wp2
          go_ret2
          exact ⟨hi, false, rfl, ⟨hin, fun hs => by have := at2.out hs; simpa [hyx] using this⟩, Up.trans HU.out u1⟩
      · go_wp2
        go_ret2
        exact ⟨hi, false, rfl, ⟨hin, fun hs => by
          have e : hi = pl k xs := by have := HI.out hs; omega
          subst e
          refine ⟨rfl, ?_⟩
          rw [none_pl hs k (by rw [HN.out]; exact hn)]
          rfl⟩, HU.out⟩

/-- Find. -/
theorem Find_any (v : Value) (xs : List Ent) (l f : Nat) (k : ByteArray) (w : World) (h : SlE w v xs) (hl : xs.length ≤ 4611686018427387903) :
    Calls Tryd.prog 9 #[.agg #[V l, V f, v], .string k] w fun e w' => ∃ (i : Nat) (o : Bool), e = .returned (.tuple #[.int .i64 (i : Int), .bool o]) ∧ (i ≤ xs.length ∧ (Srt xs → i = pl k xs ∧ o = (getL k xs).isSome)) ∧ Up w w' := by
  obtain ⟨ao, cap, rfl, hc, hn, hx⟩ := h
  have HS : Hid (∀ u, Up w u → Calls Tryd.prog 26 #[.slice ao xs.length cap, .string k, .func (.func 27) #[] #[]] u fun e w' =>
      ∃ (i : Nat) (o : Bool), e = .returned (.tuple #[.int .i64 (i : Int), .bool o]) ∧ (i ≤ xs.length ∧ (Srt xs → i = pl k xs ∧ o = (getL k xs).isSome)) ∧ Up u w') := fun u uu => search_any ao cap xs k u (fun hne => by obtain ⟨b, o, e, ha⟩ := hx hne; exact ⟨b, o, e, ha.block fun hl => uu.block b hl⟩) hl
  obtain ⟨N, hN⟩ : ∃ N, xs.length = N := ⟨_, rfl⟩
  rw [hN] at HS ⊢
  clear hx hn hc hl hN
  go_enter Tryd.func9, Tryd.ntmps9
  go_wp2_with fail
  refine (HS.out _ (Up.alloc _ _)).mono ?_
  rintro e w1 ⟨i, o, rfl, hi, u1⟩
  have HI : Hid (i ≤ N ∧ (Srt xs → i = pl k xs ∧ o = (getL k xs).isSome)) := hi
  clear hi
  go_wp2
  go_ret2
  exact ⟨i, o, rfl, HI.out, (Up.alloc _ _).trans u1⟩
end Go.Proofs.YtdddfapelencoaaDoor

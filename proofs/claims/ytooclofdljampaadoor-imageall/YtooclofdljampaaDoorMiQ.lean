/- Merged: StLkB, StLkW, StLkF. -/
import Derived.Test.YtooclofdljampaaDoorMiI
import Derived.Test.YtooclofdljampaaDoorMiK
import Derived.Deep.DeepCutAuto
set_option linter.unusedVariables false
set_option linter.unusedSimpArgs false
namespace Go.Proofs.YtooclofdljampaaDoor
open Go Go.RowKit

theorem lt_common : ∀ (c a b : List UInt8), (c ++ a < c ++ b) ↔ a < b
  | [], a, b => Iff.rfl
  | x :: c, a, b => by
    rw [List.cons_append, List.cons_append, List.cons_lt_cons_iff]
    have := lt_common c a b
    simp [this]
theorem kl_at {S T : ByteArray} {k : Nat} (h1 : k < S.data.toList.length) (h2 : k < T.data.toList.length) (he : S.data.toList.take k = T.data.toList.take k) (hne : S.data.toList[k] ≠ T.data.toList[k]) :
    kl S T = decide (S.data.toList[k] < T.data.toList[k]) := by
  rw [Bool.eq_iff_iff, kl_iff, decide_eq_true_iff]
  have e1 : S.data.toList = T.data.toList.take k ++ S.data.toList[k] :: S.data.toList.drop (k + 1) := by
    rw [← he, ← List.drop_eq_getElem_cons h1, List.take_append_drop]
  have e2 : T.data.toList = T.data.toList.take k ++ T.data.toList[k] :: T.data.toList.drop (k + 1) := by
    rw [← List.drop_eq_getElem_cons h2, List.take_append_drop]
  generalize S.data.toList[k] = x at *
  generalize T.data.toList[k] = y at *
  rw [e1, e2]
  simp only [List.take_append_drop, ← e2]
  have key := lt_common (T.data.toList.take k) (x :: S.data.toList.drop (k + 1)) (y :: T.data.toList.drop (k + 1))
  rw [← e2] at key
  refine key.trans ?_
  rw [List.cons_lt_cons_iff]
  simp [hne]
theorem kl_end {S T : ByteArray} {k : Nat} (he : S.data.toList.take k = T.data.toList.take k) (hk : k = min S.data.toList.length T.data.toList.length) :
    kl S T = decide (S.data.toList.length < T.data.toList.length) := by
  rw [Bool.eq_iff_iff, kl_iff, decide_eq_true_iff]
  rcases Nat.lt_or_ge S.data.toList.length T.data.toList.length with h | h
  · have e1 : k = S.data.toList.length := by omega
    rw [e1, List.take_of_length_le (Nat.le_refl _)] at he
    refine ⟨fun _ => h, fun _ => ?_⟩
    rw [← List.take_append_drop S.data.toList.length T.data.toList, ← he]
    have hd : T.data.toList.drop S.data.toList.length ≠ [] := by
      intro e
      have := congrArg List.length e
      rw [List.length_drop] at this
      simp at this
      simp at h
      omega
    have key := lt_common S.data.toList [] (T.data.toList.drop S.data.toList.length)
    rw [List.append_nil] at key
    refine key.2 ?_
    cases hx : T.data.toList.drop S.data.toList.length with
    | nil => exact absurd hx hd
    | cons y z => exact List.nil_lt_cons y z
  · have e1 : k = T.data.toList.length := by omega
    rw [e1, List.take_of_length_le (Nat.le_refl T.data.toList.length)] at he
    refine ⟨fun hlt => absurd hlt ?_, fun c => absurd c (by omega)⟩
    rw [← List.take_append_drop T.data.toList.length S.data.toList, he]
    have key := lt_common T.data.toList (S.data.toList.drop T.data.toList.length) []
    rw [List.append_nil] at key
    intro c
    have := key.1 c
    simp at this
end Go.Proofs.YtooclofdljampaaDoor

set_option linter.unusedVariables false
set_option linter.unusedSimpArgs false
namespace Go.Proofs.YtooclofdljampaaDoor
open Go Go.RowKit

theorem SlE.hereV {w : World} {a : Option Addr} {N c : Nat} {xs : List Ent} (h : SlE w (.slice a N c) xs) (hne : xs ≠ []) : ∃ b o, a = some ⟨b, o, none⟩ ∧ EntsAt w b o xs := by
  obtain ⟨ao, cap, e, _, _, hx⟩ := h
  simp only [Value.slice.injEq] at e
  obtain ⟨rfl, _, _⟩ := e
  exact hx hne
theorem EntsAt.atV? {w : World} {b o : Nat} {xs : List Ent} (h : EntsAt w b o xs) {i : Nat} {x : Ent} (hi : xs[i]? = some x) : EntAt w b (o + i * 9) x := by
  obtain ⟨hl, rfl⟩ := List.getElem?_eq_some_iff.1 hi
  exact h.at i hl
theorem EntAt.upV {w w' : World} {b o : Nat} {x : Ent} (h : EntAt w b o x) (k : Up w w') : EntAt w' b o x := by
  have c : ∀ a v, w.cell? a = some v → w'.cell? a = some v := fun a v e => (k.cell (World.block_lt_of_cell? w _ e)).trans e
  obtain ⟨h0, h1, h2, h3, h4, h5, h6, h7, h8⟩ := h
  exact ⟨c _ _ h0, c _ _ h1, c _ _ h2, c _ _ h3, c _ _ h4, c _ _ h5, c _ _ h6, c _ _ h7, c _ _ h8⟩

set_option maxRecDepth 20000 in
set_option maxHeartbeats 1600000 in
theorem rBefore_any (S T : ByteArray) (w : World) (h1 : S.size ≤ 9223372036854775807) (h2 : T.size ≤ 9223372036854775807) :
    Calls Tryd.prog 53 #[.string S, .string T] w fun e w' => e = .returned (.bool (kl S T)) ∧ Up w w' := by
  obtain ⟨q, hq⟩ : ∃ q, kl S T = q := ⟨_, rfl⟩
  rw [hq]
  have HQ : Hid (kl S T = q) := hq
  obtain ⟨N, hN⟩ : ∃ N, S.size = N := ⟨_, rfl⟩
  obtain ⟨M, hM⟩ : ∃ M, T.size = M := ⟨_, rfl⟩
  have hS : S.data.toList.length = N := hN
  have hT : T.data.toList.length = M := hM
  have g1 : (N : Int) ≤ 9223372036854775807 := by omega
  have g2 : (M : Int) ≤ 9223372036854775807 := by omega
  clear hq
  go_enter Tryd.func53, Tryd.ntmps53
  go_wp2
  go_loopg [5] (min N M) (fun g i wr => ∃ k : Nat, k ≤ min N M ∧ g = min N M - k ∧ i = .int .i64 k ∧ Hid (Up w wr ∧ S.data.toList.take k = T.data.toList.take k))
  case atStart => exact ⟨0, by omega, rfl, rfl, Up.refl _, rfl⟩
  case round =>
    obtain ⟨k, hk, rfl, rfl, HR⟩ := hrel
    by_cases hlt : k < min N M
    · have l1 : k < S.data.toList.length := by omega
      have l2 : k < T.data.toList.length := by omega
      have k1 : k < N := by omega
      have k2 : k < M := by omega
      have q1 : k < S.size := by omega
      have q2 : k < T.size := by omega
      have HK : Hid (min N M - (k + 1) < min N M - k ∧ k + 1 ≤ min N M) := ⟨by omega, by omega⟩
      have HT : Hid (S.data.toList[k] = T.data.toList[k] → S.data.toList.take (k + 1) = T.data.toList.take (k + 1)) := fun e => by rw [List.take_succ_eq_append_getElem l1, List.take_succ_eq_append_getElem l2, HR.out.2, e]
      have HL : Hid (S.data.toList[k] ≠ T.data.toList[k] → kl S T = decide (S.data.toList[k] < T.data.toList[k])) := fun e => kl_at l1 l2 HR.out.2 e
      have a1 : S.data.toList[k] = S[k] := by rw [Array.getElem_toList]; rfl
      have a2 : T.data.toList[k] = T[k] := by rw [Array.getElem_toList]; rfl
      rw [a1, a2] at HT HL
      clear a1 a2 l1 l2 hk hlt
      by_cases he : S[k] = T[k]
      · have HT2 : Hid (S.data.toList.take (k + 1) = T.data.toList.take (k + 1)) := HT.out he
        have hb : ((S[k].toNat : Int) != (T[k].toNat : Int)) = false := by rw [he]; simp
        clear HT HL he HQ
        go_wp2_with fail
        go_quiet (fail)
        go_wp2
        go_roundg (min N M - (k + 1))
        case measure => exact HK.out.1
        case rel => exact ⟨k + 1, HK.out.2, rfl, by go_num, HR.out.1.trans (up_drewN _ _), HT2.out⟩
      · have hne : ¬ S[k].toNat = T[k].toNat := fun e => he (UInt8.toNat_inj.1 e)
        have hb : ((S[k].toNat : Int) != (T[k].toNat : Int)) = true := by simp only [bne_iff_ne, ne_eq]; omega
        have hv : q = decide (S[k].toNat < T[k].toNat) := by rw [← HQ.out, HL.out he]; rfl
        have HV : Hid (q = decide (S[k].toNat < T[k].toNat)) := hv
        clear HT HL he HQ hne hv
        go_wp2_with fail
        go_quiet (fail)
        go_wp2_with fail
        go_quiet (fail)
        go_wp2
        go_ret
        exact ⟨by rw [HV.out]; simp, HR.out.1.trans ((up_drewN _ _).trans (up_drewN _ _))⟩
    · obtain rfl : k = min N M := by omega
      have hv : q = decide (N < M) := by rw [← HQ.out, kl_end HR.out.2 (by rw [hS, hT]), hS, hT]
      have HV : Hid (q = decide (N < M)) := hv
      have HU : Hid (Up w wr) := HR.out.1
      clear hv HQ HR hlt hk
      rcases Nat.lt_or_ge M N with c | c
      · rw [Nat.min_eq_right (by omega)]
        have k1 : M < N := c
        have k2 : ¬ N < M := by omega
        go_wp2
        go_ret
        exact ⟨by rw [HV.out]; simp; omega, HU.out⟩
      · rw [Nat.min_eq_left (by omega)]
        go_wp2
        go_ret
        exact ⟨by rw [HV.out]; simp, HU.out⟩
end Go.Proofs.YtooclofdljampaaDoor

set_option linter.unusedVariables false
set_option linter.unusedSimpArgs false
namespace Go.Proofs.YtooclofdljampaaDoor
open Go Go.RowKit

theorem beq_dec (a b : ByteArray) : (a.toList == b.toList) = decide (a = b) := by
  by_cases h : a = b
  · subst h; simp
  · rw [beq_ne h, decide_eq_false h]
/-- The first place whose key isn't ahead of k. -/
theorem first_pl {xs : List Ent} (h : Srt xs) {k : ByteArray} {i : Nat} (hi : i < xs.length) (ha : ∀ j (hj : j < xs.length), j < i → kl xs[j].1 k = true) (hn : kl xs[i].1 k = false) :
    i = pl k xs ∧ decide (xs[i].1 = k) = (getL k xs).isSome := by
  have e1 := at_pl h k i hi
  rw [hn] at e1
  have e2 : ¬ i < pl k xs := by simpa using e1.symm
  have e3 : i = pl k xs := by
    rcases Nat.lt_or_ge (pl k xs) i with c | c
    · have e4 := at_pl h k (pl k xs) (by omega)
      rw [ha _ (by omega) c] at e4
      simp at e4
    · omega
  subst e3
  exact ⟨rfl, ((here_pl h k hi).1).symm⟩
theorem none_first {xs : List Ent} (h : Srt xs) {k : ByteArray} (ha : ∀ j (hj : j < xs.length), kl xs[j].1 k = true) : xs.length = pl k xs ∧ (getL k xs).isSome = false := by
  have hp : xs.length = pl k xs := by
    have := pl_le k xs
    rcases Nat.lt_or_ge (pl k xs) xs.length with c | c
    · have e := at_pl h k (pl k xs) c
      rw [ha _ c] at e
      simp at e
    · omega
  exact ⟨hp, by rw [none_pl h k (by omega)]; rfl⟩

end Go.Proofs.YtooclofdljampaaDoor

/- The law WindowMost returns true for every numbers, and changes nothing that was there. -/
import Derived.Test.YtdopbnmmcjofmaaWnLives
set_option linter.unusedVariables false
namespace Go.Proofs.Ytdopbnmmcjofmaa
open Go Go.RowKit

abbrev WAdmitIs (limit span index count now n I C : Nat) (o : Bool) : Prop := ∀ w, Calls Try.prog 13 #[V limit, V span, V index, V count, V now, V n] w fun e w' => e = .returned (.tuple #[V I, V C, .bool o]) ∧ w' = w
abbrev WLeftIs (limit span index count now L : Nat) : Prop := ∀ w, Calls Try.prog 12 #[V limit, V span, V index, V count, V now] w fun e w' => e = .returned (V L) ∧ w' = w

theorem wadmit_is {limit span index count now n : Nat} {o : Bool} (hl : N64 limit) (hw : N64 now) (hn : N64 n) (h : decide (WFits limit span index count now n) = o) :
    WAdmitIs limit span index count now n (wIx limit span index count now n) (wCt limit span index count now n) o := fun w => by
  have k := wAdmit_any limit span index count now n hl hw hn w
  rw [h] at k
  exact k

set_option maxHeartbeats 1600000 in
/-- Nothing is left. -/
theorem most_none (kind : Int) (limit span index count now n part : Nat) (kl : ∀ w, Calls Try.prog 12 #[V limit, V span, V index, V count, V now] w fun e w' => e = .returned (.int .u64 0) ∧ w' = w)
    (k0 : ∀ w, Calls Try.prog 13 #[V limit, V span, V index, V count, V now, .int .u64 0] w fun e w' => e = .returned (.tuple #[V index, V count, .bool false]) ∧ w' = w)
    (k1 : ∀ w, Calls Try.prog 13 #[V limit, V span, V index, V count, V now, .int .u64 1] w fun e w' => e = .returned (.tuple #[V index, V count, .bool false]) ∧ w' = w) (w : World) :
    Calls Try.prog 5 #[Ow kind limit span index count now n, V part] w fun e w' => e = .returned (.bool true) ∧ Up w w' := by
  go_enter Try.func5, Try.ntmps5
  go_wp2_with fail
  refine (wawake_any _).mono ?_
  rintro e w1 ⟨rfl, u1⟩
  have hs := o7_grow (o7_new w kind limit span index count now n) u1
  generalize w.heap.size = g at hs ⊢
  clear u1
  obtain ⟨a0, a1, a2, a3, a4, a5, a6, hu⟩ := hs
  go_wp2_with fail
  refine (kl _).mono ?_
  rintro e v1 ⟨rfl, rfl⟩
  clear kl
  go_wp2_with fail
  refine (k0 _).mono ?_
  rintro e v1 ⟨rfl, rfl⟩
  clear k0
  go_wp2_with fail
  refine (k1 _).mono ?_
  rintro e v1 ⟨rfl, rfl⟩
  clear k1
  go_wp2
  go_ret
  exact ⟨rfl, hu⟩

set_option maxHeartbeats 1600000 in
/-- One is left. -/
theorem most_one (kind : Int) (limit span index count now n part I C J D : Nat) (kl : ∀ w, Calls Try.prog 12 #[V limit, V span, V index, V count, V now] w fun e w' => e = .returned (.int .u64 1) ∧ w' = w)
    (k0 : ∀ w, Calls Try.prog 13 #[V limit, V span, V index, V count, V now, .int .u64 1] w fun e w' => e = .returned (.tuple #[V I, V C, .bool true]) ∧ w' = w)
    (k1 : ∀ w, Calls Try.prog 13 #[V limit, V span, V index, V count, V now, .int .u64 2] w fun e w' => e = .returned (.tuple #[V J, V D, .bool false]) ∧ w' = w) (w : World) :
    Calls Try.prog 5 #[Ow kind limit span index count now n, V part] w fun e w' => e = .returned (.bool true) ∧ Up w w' := by
  go_enter Try.func5, Try.ntmps5
  go_wp2_with fail
  refine (wawake_any _).mono ?_
  rintro e w1 ⟨rfl, u1⟩
  have hs := o7_grow (o7_new w kind limit span index count now n) u1
  generalize w.heap.size = g at hs ⊢
  clear u1
  obtain ⟨a0, a1, a2, a3, a4, a5, a6, hu⟩ := hs
  go_wp2_with fail
  refine (kl _).mono ?_
  rintro e v1 ⟨rfl, rfl⟩
  clear kl
  go_wp2_with fail
  refine (k0 _).mono ?_
  rintro e v1 ⟨rfl, rfl⟩
  clear k0
  go_wp2_with fail
  refine (k1 _).mono ?_
  rintro e v1 ⟨rfl, rfl⟩
  clear k1
  go_wp2
  go_ret
  exact ⟨rfl, hu⟩

set_option maxRecDepth 20000 in
set_option maxHeartbeats 3200000 in
/-- Two or more are left. -/
theorem most_many (kind : Int) (limit span index count now n part L I C J D A B R : Nat) (kl : WLeftIs limit span index count now L) (k0 : WAdmitIs limit span index count now L I C true)
    (c0 : 0 < L) (k1 : decide ((L : Int) < 18446744073709551615) = false ∨ (decide ((L : Int) < 18446744073709551615) = true ∧ ∃ P I' C' : Nat, IntKind.u64.wrap ((L : Int) + 1) = (P : Int) ∧ WAdmitIs limit span index count now P I' C' false))
    (c1 : decide ((L : Int) < 2) = false) (d1 : IntKind.u64.wrap ((L : Int) - 1) = (R : Int)) (z1 : ((R : Int) == 0) = false) (z2 : (0 : Int) < (R : Int)) (d2 : (part : Int) % (R : Int) = (B : Int)) (d3 : IntKind.u64.wrap (B : Int) = (B : Int)) (d4 : IntKind.u64.wrap (1 + (B : Int)) = (A : Int))
    (Q : Nat) (d5 : IntKind.u64.wrap ((L : Int) - (A : Int)) = (Q : Int)) (k2 : WAdmitIs limit span index count now A J D true) (k3 : WAdmitIs limit span J D now Q I C true) (k4 : WLeftIs limit span J D now Q) (w : World) :
    Calls Try.prog 5 #[Ow kind limit span index count now n, V part] w fun e w' => e = .returned (.bool true) ∧ Up w w' := by
  have z3 : (0 : Int) ≤ (part : Int) := by omega
  rcases k1 with l1 | ⟨l1, P, I', C', d0, k1⟩
  · go_enter Try.func5, Try.ntmps5
    go_wp2_with fail
    refine (wawake_any _).mono ?_
    rintro e w1 ⟨rfl, u1⟩
    have hs := o7_grow (o7_new w kind limit span index count now n) u1
    generalize w.heap.size = g at hs ⊢
    clear u1
    obtain ⟨a0, a1, a2, a3, a4, a5, a6, hu⟩ := hs
    go_wp2_with fail
    refine (kl _).mono ?_
    rintro e v1 ⟨rfl, rfl⟩
    clear kl
    go_wp2_with fail
    refine (k0 _).mono ?_
    rintro e v1 ⟨rfl, rfl⟩
    clear k0
    go_wp2_with fail
    refine (k2 _).mono ?_
    rintro e v1 ⟨rfl, rfl⟩
    clear k2
    go_wp2_with fail
    refine (k3 _).mono ?_
    rintro e v1 ⟨rfl, rfl⟩
    clear k3
    go_wp2_with fail
    refine (k4 _).mono ?_
    rintro e v1 ⟨rfl, rfl⟩
    clear k4
    go_wp2
    go_ret
    exact ⟨rfl, hu⟩
  · go_enter Try.func5, Try.ntmps5
    go_wp2_with fail
    refine (wawake_any _).mono ?_
    rintro e w1 ⟨rfl, u1⟩
    have hs := o7_grow (o7_new w kind limit span index count now n) u1
    generalize w.heap.size = g at hs ⊢
    clear u1
    obtain ⟨a0, a1, a2, a3, a4, a5, a6, hu⟩ := hs
    go_wp2_with fail
    refine (kl _).mono ?_
    rintro e v1 ⟨rfl, rfl⟩
    clear kl
    go_wp2_with fail
    refine (k0 _).mono ?_
    rintro e v1 ⟨rfl, rfl⟩
    clear k0
    go_wp2_with fail
    refine (k1 _).mono ?_
    rintro e v1 ⟨rfl, rfl⟩
    clear k1
    go_wp2_with fail
    refine (k2 _).mono ?_
    rintro e v1 ⟨rfl, rfl⟩
    clear k2
    go_wp2_with fail
    refine (k3 _).mono ?_
    rintro e v1 ⟨rfl, rfl⟩
    clear k3
    go_wp2_with fail
    refine (k4 _).mono ?_
    rintro e v1 ⟨rfl, rfl⟩
    clear k4
    go_wp2
    go_ret
    exact ⟨rfl, hu⟩

theorem WindowMost_any (kind : Int) (limit span index count now n part : Nat) (hl : N64 limit) (hs : N64 span) (hi : N64 index) (hc : N64 count) (hw : N64 now) (w : World) :
    Calls Try.prog 5 #[Ow kind limit span index count now n, V part] w fun e w' => e = .returned (.bool true) ∧ Up w w' := by
  have kl := Left_any limit span index count now hl hw
  have hL := wleft_lt limit span index count now hl
  have hfit : ∀ m, WFits limit span index count now m ↔ 1 ≤ m ∧ m ≤ wLeft limit span index count now := fun m => Iff.rfl
  have hparts := fun a => left_parts (limit := limit) (span := span) (index := index) (count := count) (now := now) (a := a) rfl
  obtain ⟨L, eL⟩ : ∃ L, wLeft limit span index count now = L := ⟨_, rfl⟩
  rw [eL] at kl hL hfit hparts
  have no : ∀ m, ¬ (1 ≤ m ∧ m ≤ L) → N64 m → WAdmitIs limit span index count now m index count false := fun m h hm w => by
    have h' : ¬ WFits limit span index count now m := fun x => h ((hfit m).1 x)
    exact Admit_not limit span index count now m hl hw h' w
  have yes : ∀ m, 1 ≤ m → m ≤ L → WAdmitIs limit span index count now m (wIx limit span index count now m) (wCt limit span index count now m) true := fun m h h' =>
    wadmit_is hl hw (by unfold N64 at *; omega) (decide_eq_true ((hfit m).2 ⟨h, h'⟩))
  rcases Nat.lt_trichotomy L 1 with h | h | h
  · obtain rfl : L = 0 := by omega
    exact most_none kind limit span index count now n part kl (no 0 (by omega) (by unfold N64; omega)) (no 1 (by omega) (by unfold N64; omega)) w
  · subst h
    exact most_one kind limit span index count now n part _ _ _ _ kl (yes 1 (by omega) (by omega)) (no 2 (by omega) (by unfold N64; omega)) w
  · obtain ⟨R, eR⟩ : ∃ R, L - 1 = R := ⟨_, rfl⟩
    obtain ⟨B, eB⟩ : ∃ B, part % R = B := ⟨_, rfl⟩
    have hB : B < R := by rw [← eB]; exact Nat.mod_lt _ (by omega)
    unfold N64 at hL
    obtain ⟨hp1, hp2, hp3⟩ := hparts (1 + B) (by omega) (by omega)
    have y1 := yes (1 + B) (by omega) (by omega)
    have y2 := yes L (by omega) (by omega)
    have k4 := Left_any limit span (wIx limit span index count now (1 + B)) (wCt limit span index count now (1 + B)) now hl hw
    rw [hp1] at k4
    have y3 := wadmit_is (limit := limit) (span := span) (index := wIx limit span index count now (1 + B)) (count := wCt limit span index count now (1 + B)) (now := now) (n := L - (1 + B)) (o := true) hl hw (by unfold N64; omega) (decide_eq_true ⟨by omega, by omega⟩)
    rw [hp2, hp3] at y3
    refine most_many kind limit span index count now n part L _ _ _ _ (1 + B) B R kl y2 (by omega) ?_ (decide_eq_false (by omega)) ?_ (wne_int R (by omega)) (by omega) ?_ (wrap_n B (by omega)) ?_ (L - (1 + B)) (sub_w L (1 + B) (by omega) (by omega)) y1 y3 k4 w
    · by_cases hm : L < 18446744073709551615
      · right
        refine ⟨decide_eq_true (by omega), L + 1, index, count, ?_, no (L + 1) (by omega) (by unfold N64; omega)⟩
        rw [show (L : Int) + 1 = ((L + 1 : Nat) : Int) from rfl]
        exact wrap_n (L + 1) (by omega)
      · exact Or.inl (decide_eq_false (by omega))
    · rw [← eR]; exact sub_w L 1 (by omega) (by omega)
    · rw [← eB]; rfl
    · rw [show 1 + (B : Int) = ((1 + B : Nat) : Int) from by omega]
      exact wrap_n (1 + B) (by omega)
end Go.Proofs.Ytdopbnmmcjofmaa

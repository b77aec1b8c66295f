/- gcra: the reference's functions: numbers of 128 bits, fits and Admit. -/
import Derived.Test.YthpcjhihifhmgaaGcCalls
import Derived.Deep.RegionHeld3
set_option linter.unusedVariables false
namespace Go.Proofs.Ythpcjhihifhmgaa
open Go Go.RowKit

theorem rof_any (x : Nat) (hx : N64 x) (w : World) : Calls Try.prog 51 #[V x] w fun e w' => e = .returned (Wd x) ∧ Up w w' := by
  have hW : Wd x = .agg #[.int .u64 0, V x] := by
    have e1 : hiN x = 0 := by unfold hiN N64 at *; omega
    have e2 : loN x = x := by unfold loN N64 at *; omega
    simp only [Wd, e1, e2]; rfl
  rw [hW]
  clear hW hx
  go_enter Try.func51, Try.ntmps51
  go_wp2
  exact bodyPost_ret (v := .agg #[.int .u64 0, V x]) (by simp [results, Try.results51, go_sem]) rfl ⟨rfl, Up.alloc _ _⟩

theorem rlater_any (a b : Nat) (w : World) : Calls Try.prog 52 #[V a, V b] w fun e w' => e = .returned (V (gBase a b)) ∧ w' = w := by
  unfold gBase
  split
  · rename_i h
    have c : (b : Int) < (a : Int) := by omega
    clear h
    go_enter Try.func52, Try.ntmps52
    go_wp2
    go_ret
    exact ⟨rfl, rfl⟩
  · rename_i h
    have c : ¬ (b : Int) < (a : Int) := by omega
    clear h
    go_enter Try.func52, Try.ntmps52
    go_wp2
    go_ret
    exact ⟨rfl, rfl⟩

theorem rplus_halves (a b : Nat) (hab : N128 (a + b)) : ∃ L H : Nat, IntKind.u64.wrap ((loN a : Int) + (loN b : Int)) = (L : Int) ∧ IntKind.u64.wrap ((hiN a : Int) + (hiN b : Int)) = (H : Int) ∧ loN (a + b) = L ∧
    ((L < loN a ∧ ∃ K : Nat, IntKind.u64.wrap ((H : Int) + 1) = (K : Int) ∧ hiN (a + b) = K) ∨ (¬ L < loN a ∧ hiN (a + b) = H)) := by
  refine ⟨loN (a + b), hiN a + hiN b, ?_, ?_, rfl, ?_⟩
  · rw [IntKind.wrap_u64]; unfold loN; omega
  · rw [IntKind.wrap_u64]; unfold hiN N128 at *; omega
  · by_cases h : loN (a + b) < loN a
    · exact Or.inl ⟨h, hiN (a + b), by rw [IntKind.wrap_u64]; unfold hiN loN N128 at *; omega, rfl⟩
    · exact Or.inr ⟨h, by unfold hiN loN N128 at *; omega⟩

set_option maxHeartbeats 800000 in
theorem rplus_any (a b : Nat) (hab : N128 (a + b)) (w : World) : Calls Try.prog 50 #[Wd a, Wd b] w fun e w' => e = .returned (Wd (a + b)) ∧ Up w w' := by
  obtain ⟨L, H, w1, w2, e1, ⟨c, K, w3, e2⟩ | ⟨c, e2⟩⟩ := rplus_halves a b hab
  · have hW : Wd (a + b) = .agg #[V K, V L] := by simp only [Wd, e1, e2]
    have c' : (L : Int) < (loN a : Int) := by omega
    rw [hW]
    clear hW e1 e2 hab c
    go_enter Try.func50, Try.ntmps50
    go_wp2
    exact bodyPost_ret (v := .agg #[V K, V L]) (by simp [results, Try.results50, go_sem]) rfl ⟨rfl, up3 _ _ _ _⟩
  · have hW : Wd (a + b) = .agg #[V H, V L] := by simp only [Wd, e1, e2]
    have c' : ¬ (L : Int) < (loN a : Int) := by omega
    rw [hW]
    clear hW e1 e2 hab c
    go_enter Try.func50, Try.ntmps50
    go_wp2
    exact bodyPost_ret (v := .agg #[V H, V L]) (by simp [results, Try.results50, go_sem]) rfl ⟨rfl, up3 _ _ _ _⟩

set_option maxHeartbeats 800000 in
theorem rabove_any (a b : Nat) (w : World) : Calls Try.prog 69 #[Wd a, Wd b] w fun e w' => e = .returned (.bool (decide (b < a))) ∧ Up w w' := by
  have ea := halves a
  have eb := halves b
  have la := lo_lt a
  have lb := lo_lt b
  rw [Wd, Wd]
  generalize hiN a = h at *
  generalize loN a = l at *
  generalize hiN b = k at *
  generalize loN b = m at *
  rcases Nat.lt_trichotomy k h with e | e | e
  · rw [decide_eq_true (by omega)]
    have c : (k : Int) < (h : Int) := by omega
    clear ea eb la lb e
    go_enter Try.func69, Try.ntmps69
    go_wp2
    go_ret
    exact ⟨rfl, up2 _ _ _⟩
  · subst e
    rw [show decide (b < a) = decide (m < l) from decide_eq_decide.2 ⟨fun _ => by omega, fun _ => by omega⟩]
    clear ea eb la lb
    go_enter Try.func69, Try.ntmps69
    go_wp2
    go_ret
    exact ⟨rfl, up2 _ _ _⟩
  · rw [decide_eq_false (by omega)]
    have c : ¬ (k : Int) < (h : Int) := by omega
    have c2 : ((h : Int) == (k : Int)) = false := by simp; omega
    clear ea eb la lb e
    go_enter Try.func69, Try.ntmps69
    go_wp2
    go_ret
    exact ⟨rfl, up2 _ _ _⟩

theorem rtimes_num (a b : Nat) (ha : N64 a) (hb : N64 b) : ∃ a1 a0 b1 b0 x y m z n o h l : Nat,
    (a : Int) / 4294967296 = (a1 : Int) ∧ (a : Int) % 4294967296 = (a0 : Int) ∧ (b : Int) / 4294967296 = (b1 : Int) ∧ (b : Int) % 4294967296 = (b0 : Int) ∧
    IntKind.u64.wrap (a1 : Int) = a1 ∧ IntKind.u64.wrap (a0 : Int) = a0 ∧ IntKind.u64.wrap (b1 : Int) = b1 ∧ IntKind.u64.wrap (b0 : Int) = b0 ∧
    IntKind.u64.wrap ((a1 : Int) * (b0 : Int)) = (x : Int) ∧ IntKind.u64.wrap ((a0 : Int) * (b1 : Int)) = (y : Int) ∧ x + y = m ∧
    IntKind.u64.wrap ((a1 : Int) * (b1 : Int)) = (z : Int) ∧ IntKind.u64.wrap ((a0 : Int) * (b0 : Int)) = (n : Int) ∧ z * 18446744073709551616 + n = o ∧
    N64 x ∧ N64 y ∧ N64 z ∧ N64 n ∧ N128 m ∧ N128 o ∧
    IntKind.u64.wrap ((hiN m : Int) * 4294967296) = ((hiN m * 4294967296 : Nat) : Int) ∧ (loN m : Int) / 4294967296 = ((loN m / 4294967296 : Nat) : Int) ∧ IntKind.u64.wrap ((loN m / 4294967296 : Nat) : Int) = ((loN m / 4294967296 : Nat) : Int) ∧
    IntKind.u64.wrap (((hiN m * 4294967296 : Nat) : Int) + ((loN m / 4294967296 : Nat) : Int)) = (h : Int) ∧ IntKind.u64.wrap ((loN m : Int) * 4294967296) = (l : Int) ∧ N64 h ∧ N64 l ∧ o + (h * 18446744073709551616 + l) = a * b := by
  unfold N64 at ha hb
  obtain ⟨a1, h1⟩ : ∃ a1, a / 4294967296 = a1 := ⟨_, rfl⟩
  obtain ⟨a0, h0⟩ : ∃ a0, a % 4294967296 = a0 := ⟨_, rfl⟩
  obtain ⟨b1, g1⟩ : ∃ b1, b / 4294967296 = b1 := ⟨_, rfl⟩
  obtain ⟨b0, g0⟩ : ∃ b0, b % 4294967296 = b0 := ⟨_, rfl⟩
  have p1 := Nat.mul_le_mul (show a1 ≤ 4294967295 by omega) (show b0 ≤ 4294967295 by omega)
  have p2 := Nat.mul_le_mul (show a0 ≤ 4294967295 by omega) (show b1 ≤ 4294967295 by omega)
  have p3 := Nat.mul_le_mul (show a1 ≤ 4294967295 by omega) (show b1 ≤ 4294967295 by omega)
  have p4 := Nat.mul_le_mul (show a0 ≤ 4294967295 by omega) (show b0 ≤ 4294967295 by omega)
  have ea : a = a1 * 4294967296 + a0 := by omega
  have eb : b = b1 * 4294967296 + b0 := by omega
  have ep : a * b = (a1 * b1) * 18446744073709551616 + (a1 * b0 + a0 * b1) * 4294967296 + a0 * b0 := by
    rw [ea, eb]
    have : (a1 * 4294967296 + a0) * (b1 * 4294967296 + b0) = a1 * 4294967296 * (b1 * 4294967296) + a1 * 4294967296 * b0 + (a0 * (b1 * 4294967296) + a0 * b0) := by
      rw [Nat.add_mul, Nat.mul_add, Nat.mul_add]
    rw [this, Nat.mul_mul_mul_comm, Nat.mul_right_comm a1 4294967296 b0, ← Nat.mul_assoc a0 b1]
    omega
  refine ⟨a1, a0, b1, b0, a1 * b0, a0 * b1, a1 * b0 + a0 * b1, a1 * b1, a0 * b0, a1 * b1 * 18446744073709551616 + a0 * b0, hiN (a1 * b0 + a0 * b1) * 4294967296 + loN (a1 * b0 + a0 * b1) / 4294967296, loN (a1 * b0 + a0 * b1) % 4294967296 * 4294967296, ?_⟩
  rw [ep]
  clear ep
  simp only [mul_n]
  generalize a1 * b0 = x at *
  generalize a0 * b1 = y at *
  generalize a1 * b1 = z at *
  generalize a0 * b0 = n at *
  simp only [IntKind.wrap_u64]
  unfold N64 N128 hiN loN
  refine ⟨by omega, by omega, by omega, by omega, by omega, by omega, by omega, by omega, by omega, by omega, trivial, by omega, by omega, trivial, by omega, by omega, by omega, by omega, by omega, by omega, by omega, by omega, by omega, by omega, by omega, by omega, by omega, by omega⟩

theorem wd_eq (n h l : Nat) (h1 : hiN n = h) (h2 : loN n = l) : Wd n = .agg #[V h, V l] := by simp only [Wd, h1, h2]

set_option maxHeartbeats 1600000 in
theorem rtimes_any (a b : Nat) (ha : N64 a) (hb : N64 b) (w : World) : Calls Try.prog 53 #[V a, V b] w fun e w' => e = .returned (Wd (a * b)) ∧ Up w w' := by
  obtain ⟨a1, a0, b1, b0, x, y, m, z, n, o, h, l, d1, d2, d3, d4, q1, q2, q3, q4, p1, p2, em, p3, p4, eo, nx, ny, nz, nn, nm, no, r1, r2, r3, r4, r5, nh, nl, ep⟩ := rtimes_num a b ha hb
  have k1 := rof_any x nx
  have k2 := rof_any y ny
  have k3 := rplus_any x y (by rw [em]; exact nm)
  rw [em] at k3
  have k4 := rof_any n nn
  have k5 := rplus_any (z * 18446744073709551616) n (by rw [eo]; exact no)
  rw [eo, wd_eq (z * 18446744073709551616) z 0 (by unfold hiN; omega) (by unfold loN; omega)] at k5
  have k6 := rplus_any o (h * 18446744073709551616 + l) (by rw [ep]; exact mul_lt a b ha hb)
  rw [ep, wd_eq (h * 18446744073709551616 + l) h l (hi_of h l nl) (lo_of h l nl)] at k6
  rw [show V 0 = .int .u64 0 from rfl] at k5
  obtain ⟨P, hP⟩ : ∃ P, a * b = P := ⟨_, rfl⟩
  rw [hP] at k6 ⊢
  obtain ⟨s, hs⟩ : ∃ s, hiN m * 4294967296 = s := ⟨_, rfl⟩
  obtain ⟨t, ht⟩ : ∃ t, loN m / 4294967296 = t := ⟨_, rfl⟩
  rw [hs] at r1 r4
  rw [ht] at r2 r3 r4
  clear em eo ep nx ny nz nn nm no nh nl hP hs ht ha hb
  go_enter Try.func53, Try.ntmps53
  go_wp2_with fail
  refine (k1 _).mono ?_
  rintro e w1 ⟨rfl, u1⟩
  go_wp2_with fail
  refine (k2 _).mono ?_
  rintro e w2 ⟨rfl, u2⟩
  go_wp2_with fail
  refine (k3 _).mono ?_
  rintro e w3 ⟨rfl, u3⟩
  have v3 := u1.trans (u2.trans u3)
  have z3 : w.heap.size < w3.heap.size := by have := (u1.trans (u2.trans u3)).size; simp at this; omega
  clear k1 k2 k3 u1 u2 u3
  go_wp2_with fail
  refine (k4 _).mono ?_
  rintro e w4 ⟨rfl, u4⟩
  obtain ⟨hc4, hf4⟩ := bcell u4
  have z4 : w3.heap.size < w4.heap.size := by have := u4.size; simp at this; omega
  go_wp2_with fail
  refine (k5 _).mono ?_
  rintro e w5 ⟨rfl, u5⟩
  obtain ⟨hc5, hf5⟩ := bcell u5
  have z5 : w3.heap.size < w5.heap.size := by have := u5.size; omega
  clear k4 k5
  go_wp2_with fail
  refine (k6 _).mono ?_
  rintro e w6 ⟨rfl, u6⟩
  have v6 := v3.trans ((Up.alloc w3 _).trans (u4.trans (u5.trans ((Up.alloc w5 _).trans u6))))
  have z6 : w.heap.size < w6.heap.size := by have := u6.size; simp at this; omega
  obtain ⟨hc6, hf6⟩ := bcell v6
  clear u4 u5 u6 hc4 hf4 hc5 hf5 z4 z5 v3 z3
  go_wp2
  exact bodyPost_ret (v := Wd P) (by simp [results, Try.results53, go_sem, hc6]) rfl ⟨rfl, ((((Up.alloc w _).trans v6).setCell (by simp) _).setCell (by simp) _)⟩
end Go.Proofs.Ythpcjhihifhmgaa

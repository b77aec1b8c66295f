/- sat: what Cmp, DivMod, Add, Sub and Mul answer. -/
import Derived.Test.YtknanpnbpmmlgaaSatCalls
set_option linter.unusedVariables false
namespace Go.Proofs.Ytknanpnbpmmlgaa
open Go Go.RowKit

set_option maxHeartbeats 400000 in
theorem Cmp_same (h l : Nat) (w : World) : Calls Try.prog 19 #[.agg #[V h, V l], .agg #[V h, V l]] w fun e w' => e = .returned (.int .i64 0) ∧ Up w w' := by
  go_enter Try.func19, Try.ntmps19
  go_wp2
  go_ret
  exact ⟨rfl, up2 _ _ _⟩

set_option maxHeartbeats 400000 in
theorem Cmp_high (h l k m : Nat) (hk : (h : Int) < (k : Int)) (w : World) : Calls Try.prog 19 #[.agg #[V h, V l], .agg #[V k, V m]] w fun e w' => e = .returned (.int .i64 (-1)) ∧ Up w w' := by
  have hne : ¬ h = k := by omega
  go_enter Try.func19, Try.ntmps19
  go_wp2
  go_ret
  exact ⟨rfl, up2 _ _ _⟩

set_option maxHeartbeats 400000 in
theorem Cmp_high' (h l k m : Nat) (hk : (k : Int) < (h : Int)) (w : World) : Calls Try.prog 19 #[.agg #[V h, V l], .agg #[V k, V m]] w fun e w' => e = .returned (.int .i64 1) ∧ Up w w' := by
  have hne : ¬ h = k := by omega
  have hn2 : ¬ (h : Int) < (k : Int) := by omega
  go_enter Try.func19, Try.ntmps19
  go_wp2
  go_ret
  exact ⟨rfl, up2 _ _ _⟩

set_option maxHeartbeats 400000 in
theorem Cmp_low (h l m : Nat) (hk : (l : Int) < (m : Int)) (w : World) : Calls Try.prog 19 #[.agg #[V h, V l], .agg #[V h, V m]] w fun e w' => e = .returned (.int .i64 (-1)) ∧ Up w w' := by
  have hne : ¬ l = m := by omega
  go_enter Try.func19, Try.ntmps19
  go_wp2
  go_ret
  exact ⟨rfl, up2 _ _ _⟩

set_option maxHeartbeats 400000 in
theorem Cmp_low' (h l m : Nat) (hk : (m : Int) < (l : Int)) (w : World) : Calls Try.prog 19 #[.agg #[V h, V l], .agg #[V h, V m]] w fun e w' => e = .returned (.int .i64 1) ∧ Up w w' := by
  have hne : ¬ l = m := by omega
  have hn2 : ¬ (l : Int) < (m : Int) := by omega
  go_enter Try.func19, Try.ntmps19
  go_wp2
  go_ret
  exact ⟨rfl, up2 _ _ _⟩

theorem Cmp_any (a b : Nat) (w : World) : Calls Try.prog 19 #[Wd a, Wd b] w fun e w' => e = .returned (.int .i64 (cmpN a b)) ∧ Up w w' := by
  have ea := halves a
  have eb := halves b
  have la := lo_lt a
  have lb := lo_lt b
  rw [Wd, Wd]
  generalize hiN a = h at *
  generalize loN a = l at *
  generalize hiN b = k at *
  generalize loN b = m at *
  have c : cmpN a b = if a < b then -1 else if a = b then 0 else 1 := rfl
  rcases Nat.lt_trichotomy h k with e | e | e
  · rw [c, if_pos (by omega)]; exact Cmp_high h l k m (by omega) w
  · subst e
    rcases Nat.lt_trichotomy l m with e | e | e
    · rw [c, if_pos (by omega)]; exact Cmp_low h l m (by omega) w
    · subst e
      rw [c, if_neg (by omega), if_pos (by omega)]; exact Cmp_same h l w
    · rw [c, if_neg (by omega), if_neg (by omega)]; exact Cmp_low' h l m (by omega) w
  · rw [c, if_neg (by omega), if_neg (by omega)]; exact Cmp_high' h l k m (by omega) w

theorem Sub_any (a b : Nat) (ha : N64 a) (w : World) : Calls Try.prog 18 #[V a, V b] w fun e w' => e = .returned (V (a - b)) ∧ w' = w := by
  by_cases h : b ≤ a
  · obtain ⟨c, rfl⟩ := Nat.le.dest h
    have e : b + c - b = c := by omega
    have hw : IntKind.u64.wrap (((b + c : Nat) : Int) - (b : Int)) = (c : Int) := by rw [IntKind.wrap_u64]; unfold N64 at ha; omega
    have hn : ¬ ((b + c : Nat) : Int) < (b : Int) := by omega
    rw [e]
    generalize b + c = a at *
    clear e h ha
    go_enter Try.func18, Try.ntmps18
    go_wp2
    go_ret
    exact ⟨rfl, rfl⟩
  · have e : a - b = 0 := by omega
    have hn : (a : Int) < (b : Int) := by omega
    rw [e]
    clear e h ha
    go_enter Try.func18, Try.ntmps18
    go_wp2
    go_ret
    exact ⟨rfl, rfl⟩

def addN (a b : Nat) : Nat := if a + b < 18446744073709551616 then a + b else 18446744073709551615
def mulN64 (a b : Nat) : Nat := if a * b < 18446744073709551616 then a * b else 18446744073709551615

theorem Add_any (a b : Nat) (ha : N64 a) (hb : N64 b) (w : World) : Calls Try.prog 16 #[V a, V b] w fun e w' => e = .returned (V (addN a b)) ∧ w' = w := by
  obtain ⟨r, hr⟩ : ∃ r, 18446744073709551615 - a = r := ⟨_, rfl⟩
  have hrw : IntKind.u64.wrap (18446744073709551615 - (a : Int)) = (r : Int) := by rw [IntKind.wrap_u64]; unfold N64 at ha; omega
  unfold N64 at ha hb
  by_cases h : a + b < 18446744073709551616
  · have e : addN a b = a + b := if_pos h
    have hw : IntKind.u64.wrap ((a : Int) + (b : Int)) = ((a + b : Nat) : Int) := by rw [IntKind.wrap_u64]; omega
    have hn : ¬ (r : Int) < (b : Int) := by omega
    rw [e]
    generalize a + b = s at hw ⊢
    clear e h ha hb hr
    go_enter Try.func16, Try.ntmps16
    go_wp2
    go_ret
    exact ⟨rfl, rfl⟩
  · have e : addN a b = 18446744073709551615 := if_neg h
    have hn : (r : Int) < (b : Int) := by omega
    rw [e]
    clear e h ha hb hr
    go_enter Try.func16, Try.ntmps16
    go_wp2
    go_ret
    exact ⟨rfl, rfl⟩

theorem Mul_any (a b : Nat) (ha : N64 a) (hb : N64 b) (w : World) : Calls Try.prog 17 #[V a, V b] w fun e w' => e = .returned (V (mulN64 a b)) ∧ Up w w' := by
  have hp := Product_any a b ha hb w
  have c : mulN64 a b = if a * b < 18446744073709551616 then a * b else 18446744073709551615 := rfl
  generalize a * b = p at hp c
  by_cases h : p < 18446744073709551616
  · rw [c, if_pos h]
    have hn := Narrow_fits p h
    clear h c ha hb
    go_enter Try.func17, Try.ntmps17
    go_wp2_with fail
    refine hp.mono ?_
    rintro e w1 ⟨rfl, hu⟩
    go_wp2_with fail
    refine (hn _).mono ?_
    rintro e w2 ⟨rfl, hu2⟩
    go_wp2
    go_ret
    exact ⟨rfl, hu.trans hu2⟩
  · rw [c, if_neg h]
    have hn := Narrow_not p (by omega)
    clear h c ha hb
    go_enter Try.func17, Try.ntmps17
    go_wp2_with fail
    refine hp.mono ?_
    rintro e w1 ⟨rfl, hu⟩
    go_wp2_with fail
    refine (hn _).mono ?_
    rintro e w2 ⟨rfl, hu2⟩
    go_wp2
    go_ret
    exact ⟨rfl, hu.trans hu2⟩

theorem divmod_halves (a d : Nat) (hd : 0 < d) (hd' : N64 d) (ha : N128 a) : hiN (a / d) = hiN a / d ∧ loN (a / d) = (hiN a % d * 18446744073709551616 + loN a) / d ∧ (hiN a % d * 18446744073709551616 + loN a) % d = a % d ∧ hiN a / d < 18446744073709551616 := by
  have e := halves a
  have h1 := Nat.div_add_mod (hiN a) d
  have h2 := Nat.mod_lt (hiN a) hd
  have e2 : a = (hiN a % d * 18446744073709551616 + loN a) + d * (hiN a / d * 18446744073709551616) := by
    have : d * (hiN a / d * 18446744073709551616) = d * (hiN a / d) * 18446744073709551616 := (Nat.mul_assoc _ _ _).symm
    rw [this]; omega
  have hq : (hiN a % d * 18446744073709551616 + loN a) / d < 18446744073709551616 := by
    have := lo_lt a
    rw [Nat.div_lt_iff_lt_mul hd]
    have h3 := Nat.mul_le_mul_right 18446744073709551616 (show hiN a % d + 1 ≤ d by omega)
    rw [Nat.mul_comm 18446744073709551616 d]
    omega
  have e3 : a / d = hiN a / d * 18446744073709551616 + (hiN a % d * 18446744073709551616 + loN a) / d := by
    conv => lhs; rw [e2]
    rw [Nat.add_mul_div_left _ _ hd, Nat.add_comm]
  have e4 : a % d = (hiN a % d * 18446744073709551616 + loN a) % d := by
    conv => lhs; rw [e2]
    rw [Nat.add_mul_mod_self_left]
  refine ⟨?_, ?_, e4.symm, Nat.lt_of_le_of_lt (Nat.div_le_self _ _) (hi_lt a ha)⟩
  · rw [e3]; exact hi_of _ _ hq
  · rw [e3]; exact lo_of _ _ hq

theorem bcell {W w1 : World} (hb : Below W.heap.size W w1) : (∀ b o, b < W.heap.size → w1.cell? ⟨b, o, none⟩ = W.cell? ⟨b, o, none⟩) ∧ (∀ b o, b < W.heap.size → w1.frozen? ⟨b, o, none⟩ = W.frozen? ⟨b, o, none⟩) :=
  ⟨fun b o h => hb.cell (p := ⟨b, o, none⟩) h, fun b o h => hb.frozen (p := ⟨b, o, none⟩) h⟩

set_option maxHeartbeats 400000 in
theorem DivMod_zero (a : Nat) (w : World) : Calls Try.prog 10 #[Wd a, .int .u64 0] w fun e w' => e = .returned (.tuple #[Wd 0, .int .u64 0]) ∧ Up w w' := by
  rw [wd_zero]
  go_enter Try.func10, Try.ntmps10
  go_wp2
  exact bodyPost_ret (v := .tuple #[.agg #[.int .u64 0, .int .u64 0], .int .u64 0]) (by simp [results, Try.results10, go_sem]) rfl ⟨rfl, up2 _ _ _⟩

set_option maxHeartbeats 800000 in
theorem DivMod_any (a d : Nat) (ha : N128 a) (hd : 0 < d) (hd' : N64 d) (w : World) : Calls Try.prog 10 #[Wd a, V d] w fun e w' => e = .returned (.tuple #[Wd (a / d), V (a % d)]) ∧ Up w w' := by
  obtain ⟨e1, e2, e3, e4⟩ := divmod_halves a d hd hd' ha
  have h2 := Nat.mod_lt (hiN a) hd
  have hdv := Div64_any (hiN a % d) (loN a) d hd' (lo_lt a) h2
  rw [← e2, e3] at hdv
  have hW : Wd (a / d) = .agg #[V (hiN a / d), V (loN (a / d))] := by simp only [Wd, e1]
  rw [hW]
  obtain ⟨Q, hQ⟩ : ∃ Q, hiN a / d = Q := ⟨_, rfl⟩
  obtain ⟨M, hM⟩ : ∃ M, hiN a % d = M := ⟨_, rfl⟩
  have q1 : (hiN a : Int) / (d : Int) = (Q : Int) := by rw [← hQ]; exact (Int.natCast_ediv ..).symm
  have q2 : IntKind.u64.wrap (Q : Int) = (Q : Int) := wrap_n Q (by rw [← hQ]; exact e4)
  have m1 : (hiN a : Int) % (d : Int) = (M : Int) := by rw [← hM]; exact (Int.natCast_emod ..).symm
  have d0 : ((d : Int) == 0) = false := ne_int d (by omega)
  have dp : (0 : Int) < (d : Int) := by omega
  rw [hQ]
  rw [hM] at hdv
  generalize a % d = R at hdv ⊢
  generalize loN (a / d) = L at hdv ⊢
  clear e1 e2 e3 e4 h2 hW hQ hM ha hd hd'
  go_enter Try.func10, Try.ntmps10
  go_wp2
  go_region
  go_wp2_with fail
  refine (hdv _).mono ?_
  rintro e w1 ⟨rfl, hu⟩
  obtain ⟨hc, hf⟩ := bcell hu
  have hz : w.heap.size + 1 < w1.heap.size := by have := hu.size; simp at this; omega
  go_wp2
  exact bodyPost_ret (v := .tuple #[.agg #[V Q, V L], V R]) (by simp [results, Try.results10, go_sem, hc]) rfl ⟨rfl, (((((up2 _ _ _).trans (Up.drew _)).trans hu).setCell (by simp) _).setCell (by simp) _)⟩
end Go.Proofs.Ytknanpnbpmmlgaa

/- sat: the reference's Of, Narrow, low, Plus, Add, Product, Mul, Sub; the law's wide. -/
import Derived.Test.YtknanpnbpmmlgaaSatProd
import Derived.Deep.RegionHeld3
set_option linter.unusedVariables false
namespace Go.Proofs.Ytknanpnbpmmlgaa
open Go Go.RowKit

theorem dig_of (a : Nat) (ha : N128 a) : (dig8 (hiN a) (loN a)).length = 8 ∧ Digs (dig8 (hiN a) (loN a)) ∧ valD (dig8 (hiN a) (loN a)) = a := by
  obtain ⟨h1, h2, h3⟩ := dig8_spec (hiN a) (loN a) (hi_lt a ha) (lo_lt a)
  exact ⟨h1, h2, by rw [h3]; exact halves a⟩
theorem dig_low (a : Nat) (ha : N64 a) : (dig8 0 a).length = 8 ∧ Digs (dig8 0 a) ∧ valD (dig8 0 a) = a := by
  obtain ⟨h1, h2, h3⟩ := dig8_spec 0 a (by decide) ha
  exact ⟨h1, h2, by rw [h3]; omega⟩
theorem cap_plus (a b : Nat) : capN (a + b) = plusN a b := rfl

theorem ROf_any (x : Nat) (hx : N64 x) (w : World) : Calls Try.prog 24 #[V x] w fun e w' => e = .returned (Wd x) ∧ Up w w' := by
  have hW : Wd x = .agg #[.int .u64 0, V x] := by
    have e1 : hiN x = 0 := by unfold hiN N64 at *; omega
    have e2 : loN x = x := by unfold loN N64 at *; omega
    simp only [Wd, e1, e2]; rfl
  rw [hW]
  clear hW hx
  go_enter Try.func24, Try.ntmps24
  go_wp2
  exact bodyPost_ret (v := .agg #[.int .u64 0, V x]) (by simp [results, Try.results24, go_sem]) rfl ⟨rfl, Up.alloc _ _⟩

theorem RNarrow_fits (a : Nat) (ha : N64 a) (w : World) : Calls Try.prog 29 #[Wd a] w fun e w' => e = .returned (.tuple #[V a, .bool true]) ∧ Up w w' := by
  have hW : Wd a = .agg #[.int .u64 0, V a] := by
    have e1 : hiN a = 0 := by unfold hiN N64 at *; omega
    have e2 : loN a = a := by unfold loN N64 at *; omega
    simp only [Wd, e1, e2]; rfl
  rw [hW]
  clear hW ha
  go_enter Try.func29, Try.ntmps29
  go_wp2
  go_ret2
  exact ⟨rfl, Up.alloc _ _⟩
theorem RNarrow_not (a : Nat) (ha : 18446744073709551616 ≤ a) (w : World) : Calls Try.prog 29 #[Wd a] w fun e w' => e = .returned (.tuple #[.int .u64 0, .bool false]) ∧ Up w w' := by
  have h : ((hiN a : Int) == 0) = false := ne_int _ (by unfold hiN; omega)
  clear ha
  go_enter Try.func29, Try.ntmps29
  go_wp2
  go_ret2
  exact ⟨rfl, Up.alloc _ _⟩

/-- A number of 64 bits, or the greatest one. -/
def cap64 (n : Nat) : Nat := if n < 18446744073709551616 then n else 18446744073709551615
theorem low_any (a : Nat) (w : World) : Calls Try.prog 35 #[Wd a] w fun e w' => e = .returned (V (cap64 a)) ∧ Up w w' := by
  by_cases h : a < 18446744073709551616
  · have hW : Wd a = .agg #[.int .u64 0, V a] := by
      have e1 : hiN a = 0 := by unfold hiN; omega
      have e2 : loN a = a := by unfold loN; omega
      simp only [Wd, e1, e2]; rfl
    have hc : cap64 a = a := if_pos h
    rw [hW, hc]
    clear hW h hc
    go_enter Try.func35, Try.ntmps35
    go_wp2
    go_ret
    exact ⟨rfl, Up.alloc _ _⟩
  · have hc : cap64 a = 18446744073709551615 := if_neg h
    have h0 : ((hiN a : Int) == 0) = false := ne_int _ (by unfold hiN; omega)
    rw [hc]
    clear h hc
    go_enter Try.func35, Try.ntmps35
    go_wp2
    go_ret
    exact ⟨rfl, Up.alloc _ _⟩

theorem three_boxes (w : World) (a b c d : Nat) (t : TypeId) :
    ((((w.alloc (.cells #[V a, V b] t)).alloc (.cells #[V c, V d] t)).alloc (.cells #[.int .u64 0, .int .u64 0] t)).heap[w.heap.size]? = some (.cells #[V a, V b] t (0, 0)) ∧ True) ∧
    ((((w.alloc (.cells #[V a, V b] t)).alloc (.cells #[V c, V d] t)).alloc (.cells #[.int .u64 0, .int .u64 0] t)).heap[w.heap.size + 1]? = some (.cells #[V c, V d] t (0, 0)) ∧ True) ∧
    (((w.alloc (.cells #[V a, V b] t)).alloc (.cells #[V c, V d] t)).alloc (.cells #[.int .u64 0, .int .u64 0] t)).heap[w.heap.size + 1 + 1]? = some (.cells #[.int .u64 0, .int .u64 0] t (0, 0)) ∧ True := by
  have e1 : (w.alloc (.cells #[V a, V b] t)).heap.size = w.heap.size + 1 := by simp
  have e2 : ((w.alloc (.cells #[V a, V b] t)).alloc (.cells #[V c, V d] t)).heap.size = w.heap.size + 1 + 1 := by simp
  have h1 := heap_alloc_new w (.cells #[V a, V b] t)
  have h2 := heap_alloc_new (w.alloc (.cells #[V a, V b] t)) (.cells #[V c, V d] t)
  have h3 := heap_alloc_new ((w.alloc (.cells #[V a, V b] t)).alloc (.cells #[V c, V d] t)) (.cells #[.int .u64 0, .int .u64 0] t)
  rw [e1] at h2
  rw [e2] at h3
  refine ⟨⟨?_, trivial⟩, ⟨?_, trivial⟩, h3, trivial⟩
  · rw [(Up.alloc _ _).block _ (by rw [e2]; omega), (Up.alloc _ _).block _ (by rw [e1]; omega)]; exact h1
  · rw [(Up.alloc _ _).block _ (by rw [e2]; omega)]; exact h2

set_option maxHeartbeats 800000 in
theorem RPlus_any (a b : Nat) (ha : N128 a) (hb : N128 b) (w : World) : Calls Try.prog 26 #[Wd a, Wd b] w fun e w' => e = .returned (Wd (plusN a b)) ∧ Up w w' := by
  have k1 := of_any (hiN a) (loN a) (hi_lt a ha) (lo_lt a)
  have k2 := of_any (hiN b) (loN b) (hi_lt b hb) (lo_lt b)
  have HD : Hid ((dig8 (hiN a) (loN a)).length = 8 ∧ Digs (dig8 (hiN a) (loN a)) ∧ valD (dig8 (hiN a) (loN a)) = a) := dig_of a ha
  have HE : Hid ((dig8 (hiN b) (loN b)).length = 8 ∧ Digs (dig8 (hiN b) (loN b)) ∧ valD (dig8 (hiN b) (loN b)) = b) := dig_of b hb
  clear ha hb
  obtain ⟨R, hR⟩ : ∃ R, plusN a b = R := ⟨_, rfl⟩
  have HR : Hid (plusN a b = R) := hR
  rw [hR]
  clear hR
  go_enter Try.func26, Try.ntmps26
  go_wp2_with fail
  have W0 : Up w ((((w.alloc (.cells #[V (hiN a), V (loN a)] 45)).alloc (.cells #[V (hiN b), V (loN b)] 45)).alloc (.cells #[.int .u64 0, .int .u64 0] 45)).drew) := (up3 _ _ _ _).trans (Up.drew _)
  have hc : ∀ u : World, Up ((((w.alloc (.cells #[V (hiN a), V (loN a)] 45)).alloc (.cells #[V (hiN b), V (loN b)] 45)).alloc (.cells #[.int .u64 0, .int .u64 0] 45)).drew) u →
      (u.cell? ⟨w.heap.size, 0, none⟩ = some (V (hiN a)) ∧ u.cell? ⟨w.heap.size, 1, none⟩ = some (V (loN a)) ∧ u.cell? ⟨w.heap.size + 1, 0, none⟩ = some (V (hiN b)) ∧ u.cell? ⟨w.heap.size + 1, 1, none⟩ = some (V (loN b))) ∧
      (u.cell? ⟨w.heap.size + 1 + 1, 0, none⟩ = some (.int .u64 0) ∧ u.cell? ⟨w.heap.size + 1 + 1, 1, none⟩ = some (.int .u64 0) ∧ u.frozen? ⟨w.heap.size + 1 + 1, 0, none⟩ = false ∧ u.frozen? ⟨w.heap.size + 1 + 1, 1, none⟩ = false) := by
    intro u hu
    obtain ⟨⟨x0, x1⟩, ⟨y0, y1⟩, z0, z1⟩ := three_boxes w (hiN a) (loN a) (hiN b) (loN b) 45
    have hh := fun g (h : g < w.heap.size + 1 + 1 + 1) => hu.block g (show g < ((((w.alloc (.cells #[V (hiN a), V (loN a)] 45)).alloc (.cells #[V (hiN b), V (loN b)] 45)).alloc (.cells #[.int .u64 0, .int .u64 0] 45)).drew).heap.size by simp; omega)
    have h0 : u.heap[w.heap.size]? = _ := (hh _ (by omega)).trans x0
    have h1 : u.heap[w.heap.size + 1]? = _ := (hh _ (by omega)).trans y0
    have h2 : u.heap[w.heap.size + 1 + 1]? = _ := (hh _ (by omega)).trans z0
    refine ⟨⟨?_, ?_, ?_, ?_⟩, ?_, ?_, by simp [World.frozen?, h2], by simp [World.frozen?, h2]⟩
    · rw [cell_of_row _ _ _ _ _ _ h0]; rfl
    · rw [cell_of_row _ _ _ _ _ _ h0]; rfl
    · rw [cell_of_row _ _ _ _ _ _ h1]; rfl
    · rw [cell_of_row _ _ _ _ _ _ h1]; rfl
    · rw [cell_of_row _ _ _ _ _ _ h2]; rfl
    · rw [cell_of_row _ _ _ _ _ _ h2]; rfl
  have hn2 : w.heap.size + 1 + 1 ≠ w.heap.size := by omega
  have hn3 : w.heap.size + 1 + 1 ≠ w.heap.size + 1 := by omega
  obtain ⟨WD, hWD⟩ : ∃ x, ((((w.alloc (.cells #[V (hiN a), V (loN a)] 45)).alloc (.cells #[V (hiN b), V (loN b)] 45)).alloc (.cells #[.int .u64 0, .int .u64 0] 45)).drew) = x := ⟨_, rfl⟩
  simp only [hWD] at W0 hc
  have hs := (hc WD (Up.refl _)).1
  have HC : Hid (∀ u : World, Up WD u → _) := hc
  clear hc
  subst hWD
  go_region_held3 (fun u => u.cell? ⟨w.heap.size, 0, none⟩ = some (V (hiN a)) ∧ u.cell? ⟨w.heap.size, 1, none⟩ = some (V (loN a)) ∧ u.cell? ⟨w.heap.size + 1, 0, none⟩ = some (V (hiN b)) ∧ u.cell? ⟨w.heap.size + 1, 1, none⟩ = some (V (loN b)))
    (first | exact hs | go_keep)
    (first
    | (go_at_call_of 38 (loN a); refine (k1 _).mono ?_; rintro e w1 ⟨v1, rfl, s1, u1⟩; clear hs; have hs := (HC.out w1 u1).1)
    | (go_at_call_of 38 (loN b); refine (k2 _).mono ?_; rintro e w2 ⟨v2, rfl, s2, u2⟩; clear hs; have hs := (HC.out w2 (u1.trans u2)).1)
    | (go_at_call 37; refine (sum_any v1 v2 _ _ _ (s1.up u2) s2 HD.out.1 HE.out.1 HD.out.2.1 HE.out.2.1).mono ?_; rintro e w3 ⟨v3, ds, rfl, s3, l3, g3, e3, u3⟩; clear hs; have hs := (HC.out w3 (u1.trans (u2.trans u3))).1)
    | (go_at_call 36; have kn := number_any v3 ds w3 s3 (by rw [l3]; omega) (by rw [l3]; omega) g3; rw [e3, HD.out.2.2, HE.out.2.2, cap_plus, HR.out] at kn; refine kn.mono ?_; rintro e w4 ⟨rfl, u4⟩; clear hs; have hs := (HC.out w4 (u1.trans (u2.trans (u3.trans u4)))).1; obtain ⟨d0, d1, g0, g1⟩ := (HC.out w4 (u1.trans (u2.trans (u3.trans u4)))).2))
  all_goals
    go_wp2
    exact bodyPost_ret (v := Wd R) (by simp [results, Try.results26, go_sem, d0, d1]) rfl ⟨rfl, ((W0.trans (u1.trans (u2.trans (u3.trans u4)))).setCell (by show w.heap.size ≤ w.heap.size + 1 + 1; omega) _).setCell (by show w.heap.size ≤ w.heap.size + 1 + 1; omega) _⟩

set_option maxHeartbeats 800000 in
theorem RProduct_any (a b : Nat) (ha : N64 a) (hb : N64 b) (w : World) : Calls Try.prog 25 #[V a, V b] w fun e w' => e = .returned (Wd (a * b)) ∧ Up w w' := by
  have k1 := of_any 0 a (by decide) ha
  have k2 := of_any 0 b (by decide) hb
  rw [show V 0 = Value.int .u64 0 from rfl] at k1 k2
  have HD : Hid ((dig8 0 a).length = 8 ∧ Digs (dig8 0 a) ∧ valD (dig8 0 a) = a) := dig_low a ha
  have HE : Hid ((dig8 0 b).length = 8 ∧ Digs (dig8 0 b) ∧ valD (dig8 0 b) = b) := dig_low b hb
  have hc : capN (a * b) = a * b := if_pos (mul_lt a b ha hb)
  obtain ⟨R, hR⟩ : ∃ R, a * b = R := ⟨_, rfl⟩
  rw [hR] at hc ⊢
  have HR : Hid (a * b = R ∧ capN R = R) := ⟨hR, hc⟩
  clear hR hc ha hb
  go_enter Try.func25, Try.ntmps25
  go_wp2_with fail
  refine (k1 _).mono ?_
  rintro e w1 ⟨v1, rfl, s1, u1⟩
  have S1 : Hid (SlD w1 v1 _) := s1
  clear s1
  go_wp2_with fail
  refine (k2 _).mono ?_
  rintro e w2 ⟨v2, rfl, s2, u2⟩
  have S2 : Hid (SlD w2 v2 _) := s2
  clear s2 k1 k2
  go_wp2_with fail
  refine (product_any v1 v2 _ _ _ (S1.out.up u2) S2.out HD.out.1 HE.out.1 HD.out.2.1 HE.out.2.1).mono ?_
  rintro e w3 ⟨v3, ds, rfl, s3, l3, g3, e3, u3⟩
  have kn := number_any v3 ds w3 s3 (by rw [l3]; omega) (by rw [l3]; omega) g3
  rw [e3, HD.out.2.2, HE.out.2.2, HR.out.1, HR.out.2] at kn
  clear s3 l3 g3 e3
  go_wp2_with fail
  refine kn.mono ?_
  rintro e w4 ⟨rfl, u4⟩
  clear kn
  obtain ⟨cc, ff⟩ := bcell (u1.trans (u2.trans (u3.trans u4)))
  have U : Up w w4 := (Up.alloc _ _).trans (u1.trans (u2.trans (u3.trans u4)))
  clear u1 u2 u3 u4
  go_wp2
  exact bodyPost_ret (v := Wd R) (by simp [results, Try.results25, go_sem, cc]) rfl ⟨rfl, (U.setCell (Nat.le_refl _) _).setCell (Nat.le_refl _) _⟩

set_option maxHeartbeats 800000 in
theorem RAdd_any (a b : Nat) (ha : N64 a) (hb : N64 b) (w : World) : Calls Try.prog 20 #[V a, V b] w fun e w' => e = .returned (V (addN a b)) ∧ Up w w' := by
  have k1 := of_any 0 a (by decide) ha
  have k2 := of_any 0 b (by decide) hb
  rw [show V 0 = Value.int .u64 0 from rfl] at k1 k2
  have HD : Hid ((dig8 0 a).length = 8 ∧ Digs (dig8 0 a) ∧ valD (dig8 0 a) = a) := dig_low a ha
  have HE : Hid ((dig8 0 b).length = 8 ∧ Digs (dig8 0 b) ∧ valD (dig8 0 b) = b) := dig_low b hb
  have hc : capN (a + b) = a + b := if_pos (by unfold N64 at *; omega)
  have hl : cap64 (a + b) = addN a b := rfl
  obtain ⟨R, hR⟩ : ∃ R, addN a b = R := ⟨_, rfl⟩
  rw [hR] at hl ⊢
  have HR : Hid (capN (a + b) = a + b ∧ cap64 (a + b) = R) := ⟨hc, hl⟩
  clear hR hc hl ha hb
  go_enter Try.func20, Try.ntmps20
  go_wp2_with fail
  refine (k1 _).mono ?_
  rintro e w1 ⟨v1, rfl, s1, u1⟩
  have S1 : Hid (SlD w1 v1 _) := s1
  clear s1
  go_wp2_with fail
  refine (k2 _).mono ?_
  rintro e w2 ⟨v2, rfl, s2, u2⟩
  have S2 : Hid (SlD w2 v2 _) := s2
  clear s2 k1 k2
  go_wp2_with fail
  refine (sum_any v1 v2 _ _ _ (S1.out.up u2) S2.out HD.out.1 HE.out.1 HD.out.2.1 HE.out.2.1).mono ?_
  rintro e w3 ⟨v3, ds, rfl, s3, l3, g3, e3, u3⟩
  have kn := number_any v3 ds w3 s3 (by rw [l3]; omega) (by rw [l3]; omega) g3
  rw [e3, HD.out.2.2, HE.out.2.2, HR.out.1] at kn
  clear s3 l3 g3 e3
  go_wp2_with fail
  refine kn.mono ?_
  rintro e w4 ⟨rfl, u4⟩
  clear kn
  have kl := low_any (a + b) w4
  rw [HR.out.2] at kl
  obtain ⟨S, hS⟩ : ∃ S, a + b = S := ⟨_, rfl⟩
  rw [hS] at kl ⊢
  clear hS
  go_wp2_with fail
  refine kl.mono ?_
  rintro e w5 ⟨rfl, u5⟩
  have U : Up w w5 := u1.trans (u2.trans (u3.trans (u4.trans u5)))
  clear kl
  go_wp2
  go_ret
  exact ⟨rfl, U⟩

theorem RMul_any (a b : Nat) (ha : N64 a) (hb : N64 b) (w : World) : Calls Try.prog 22 #[V a, V b] w fun e w' => e = .returned (V (mulN64 a b)) ∧ Up w w' := by
  have k1 := RProduct_any a b ha hb w
  have hl : cap64 (a * b) = mulN64 a b := rfl
  rw [← hl]
  generalize a * b = p at k1 ⊢
  clear ha hb
  go_enter Try.func22, Try.ntmps22
  go_wp2_with fail
  refine k1.mono ?_
  rintro e w1 ⟨rfl, u1⟩
  go_wp2_with fail
  refine (low_any p w1).mono ?_
  rintro e w2 ⟨rfl, u2⟩
  go_wp2
  go_ret
  exact ⟨rfl, u1.trans u2⟩

theorem RSub_any (a b : Nat) (ha : N64 a) (w : World) : Calls Try.prog 21 #[V a, V b] w fun e w' => e = .returned (V (a - b)) ∧ w' = w := by
  by_cases h : b ≤ a
  · obtain ⟨c, rfl⟩ := Nat.le.dest h
    have e : b + c - b = c := by omega
    have hw : IntKind.u64.wrap (((b + c : Nat) : Int) - (b : Int)) = (c : Int) := by rw [IntKind.wrap_u64]; unfold N64 at ha; omega
    have hn : ¬ ((b + c : Nat) : Int) < (b : Int) := by omega
    rw [e]
    generalize b + c = a at *
    clear e h ha
    go_enter Try.func21, Try.ntmps21
    go_wp2
    go_ret
    exact ⟨rfl, rfl⟩
  · have e : a - b = 0 := by omega
    have hn : (a : Int) < (b : Int) := by omega
    rw [e]
    clear e h ha
    go_enter Try.func21, Try.ntmps21
    go_wp2
    go_ret
    exact ⟨rfl, rfl⟩

theorem wide_any (n : Nat) (w : World) : Calls Try.prog 23 #[Wd n] w fun e w' => e = .returned (Wd n) ∧ Up w w' := by
  go_enter Try.func23, Try.ntmps23
  go_wp2
  exact bodyPost_ret (v := Wd n) (by simp [results, Try.results23, go_sem]) rfl ⟨rfl, up2 _ _ _⟩
end Go.Proofs.Ytknanpnbpmmlgaa

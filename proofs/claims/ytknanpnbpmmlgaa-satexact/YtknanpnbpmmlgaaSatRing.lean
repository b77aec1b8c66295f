/- The law SatRing returns true for every three numbers, and changes nothing that was there. -/
import Derived.Test.YtknanpnbpmmlgaaSatLadder
import Derived.Deep.RegionHeld3
import Derived.Deep.DeepCutAuto
import Derived.BigQuiet
import Derived.Deep.QuietTactic
set_option linter.unusedVariables false
namespace Go.Proofs.Ytknanpnbpmmlgaa
open Go Go.RowKit

/-- What the law asks of the numbers. -/
theorem ring_num (a b c : Nat) (ha : N64 a) (hb : N64 b) (hc : N64 c) : ∃ x y s : Nat, a * b = x ∧ b * a = x ∧ a * c = y ∧ plusN x y = s ∧ plusN y x = s ∧ N128 x ∧ N128 y ∧ N128 s ∧ (0 ≤ cmpN s x) ∧ (0 ≤ cmpN s y) ∧
    (s ≠ 340282366920938463463374607431768211455 → minusN s x = y ∧ minusN s y = x) ∧ (b + c < 18446744073709551616 → a * (b + c) = s) := by
  have hx := mul_lt a b ha hb
  have hy := mul_lt a c ha hc
  refine ⟨a * b, a * c, plusN (a * b) (a * c), rfl, Nat.mul_comm _ _, rfl, rfl, ?_, hx, hy, plus_lt _ _, ?_, ?_, ?_, ?_⟩
  · unfold plusN; rw [Nat.add_comm]
  · unfold plusN cmpN N128 at *
    split <;> split <;> first | omega | (split <;> omega)
  · unfold plusN cmpN N128 at *
    split <;> split <;> first | omega | (split <;> omega)
  · intro h
    unfold plusN minusN at *
    split at h <;> split <;> omega
  · intro h
    have := mul_lt a (b + c) ha h
    rw [Nat.mul_add] at this
    rw [Nat.mul_add, plus_small _ _ this]

theorem Up.drewN (w : World) (n : Nat) : Up w (w.drewN n) := ⟨rfl, rfl, rfl, Nat.le_refl _, fun _ _ => rfl⟩

/-- Boxes with numbers of 128 bits that hold still, whatever was made since. -/
def Bx (w0 w : World) (L : List (Nat × Nat)) : Prop := Up w0 w ∧ ∀ p ∈ L, w.cell? ⟨p.1, 0, none⟩ = some (V (hiN p.2)) ∧ w.cell? ⟨p.1, 1, none⟩ = some (V (loN p.2))
theorem Bx.grow {w0 w w' : World} {L : List (Nat × Nat)} (h : Bx w0 w L) (hu : Up w w') : Bx w0 w' L := by
  refine ⟨h.1.trans hu, fun p hp => ?_⟩
  obtain ⟨h0, h1⟩ := h.2 p hp
  exact ⟨by rw [hu.cell (World.block_lt_of_cell? w _ h0)]; exact h0, by rw [hu.cell (World.block_lt_of_cell? w _ h1)]; exact h1⟩
theorem Bx.new {w0 w : World} {L : List (Nat × Nat)} (h : Bx w0 w L) (n : Nat) (t : TypeId) : Bx w0 (w.alloc (.cells #[V (hiN n), V (loN n)] t)) ((w.heap.size, n) :: L) := by
  obtain ⟨a, b⟩ := h.grow (Up.alloc w (.cells #[V (hiN n), V (loN n)] t))
  refine ⟨a, fun p hp => ?_⟩
  rcases List.mem_cons.1 hp with rfl | hp
  · exact ⟨by rw [cell_of_row _ _ _ _ _ _ (heap_alloc_new _ _)]; rfl, by rw [cell_of_row _ _ _ _ _ _ (heap_alloc_new _ _)]; rfl⟩
  · exact b p hp
theorem Bx.nil (w : World) : Bx w w [] := ⟨Up.refl _, fun p hp => by cases hp⟩

/-- What the boxes hold, cell by cell. -/
abbrev S3 (w : World) (g1 g2 g3 x y s : Nat) (w' : World) : Prop :=
  w'.cell? ⟨g1, 0, none⟩ = some (V (hiN x)) ∧ w'.cell? ⟨g1, 1, none⟩ = some (V (loN x)) ∧ w'.cell? ⟨g2, 0, none⟩ = some (V (hiN y)) ∧ w'.cell? ⟨g2, 1, none⟩ = some (V (loN y)) ∧ w'.cell? ⟨g3, 0, none⟩ = some (V (hiN s)) ∧ w'.cell? ⟨g3, 1, none⟩ = some (V (loN s)) ∧ Bx w w' [(g3, s), (g2, y), (g1, x)]

set_option maxHeartbeats 3200000 in
theorem SatRing_any (a b c : Nat) (ha : N64 a) (hb : N64 b) (hc : N64 c) (w : World) : Calls Try.prog 6 #[V a, V b, V c] w fun e w' => e = .returned (.bool true) ∧ Up w w' := by
  obtain ⟨x, y, s, e1, e2, e3, e4, e5, n1, n2, n3, c1, c2, hm, hsum⟩ := ring_num a b c ha hb hc
  have k1 := fun w => Product_any a b ha hb w
  have k2 := fun w => Product_any a c ha hc w
  have k3 := fun w => Plus_any x y n1 n2 w
  have k4 : ∀ {w0 w : World} {L : List (Nat × Nat)}, Bx w0 w L → Calls Try.prog 11 #[V b, V a] w fun e w' => e = .returned (Wd x) ∧ Bx w0 w' L := fun {w0 w L} h => by
    have := Product_any b a hb ha w
    rw [e2] at this
    exact this.mono fun e w' ⟨h1, h2⟩ => ⟨h1, h.grow h2⟩
  have k5 : ∀ {w0 w : World} {L : List (Nat × Nat)}, Bx w0 w L → Calls Try.prog 13 #[Wd y, Wd x] w fun e w' => e = .returned (Wd s) ∧ Bx w0 w' L := fun {w0 w L} h => by
    have := Plus_any y x n2 n1 w
    rw [e5] at this
    exact this.mono fun e w' ⟨h1, h2⟩ => ⟨h1, h.grow h2⟩
  have k6 : ∀ {w0 w : World} {L : List (Nat × Nat)}, Bx w0 w L → Calls Try.prog 19 #[Wd s, Wd x] w fun e w' => ∃ c : Int, e = .returned (.int .i64 c) ∧ decide (c < 0) = false ∧ Bx w0 w' L := fun {w0 w L} h =>
    (Cmp_any s x w).mono fun e w' ⟨h1, h2⟩ => ⟨_, h1, decide_eq_false (by omega), h.grow h2⟩
  have k7 : ∀ {w0 w : World} {L : List (Nat × Nat)}, Bx w0 w L → Calls Try.prog 19 #[Wd s, Wd y] w fun e w' => ∃ c : Int, e = .returned (.int .i64 c) ∧ decide (c < 0) = false ∧ Bx w0 w' L := fun {w0 w L} h =>
    (Cmp_any s y w).mono fun e w' ⟨h1, h2⟩ => ⟨_, h1, decide_eq_false (by omega), h.grow h2⟩
  rw [e1] at k1
  rw [e3] at k2
  rw [e4] at k3
  have nx : Hid (N128 x) := n1
  have ny : Hid (N128 y) := n2
  have ns : Hid (N128 s) := n3
  clear e1 e2 e3 e4 e5 n1 n2 n3 c1 c2
  go_enter Try.func6, Try.ntmps6
  go_wp2_with fail
  refine (awake_any _).mono ?_
  rintro e w1 ⟨rfl, u1⟩
  go_wp2_with fail
  refine (k1 _).mono ?_
  rintro e w2 ⟨rfl, u2⟩
  go_wp2_with fail
  refine (k2 _).mono ?_
  rintro e w3 ⟨rfl, u3⟩
  obtain ⟨c3, f3⟩ := bcell u3
  have z3 : w2.heap.size < w3.heap.size := by have := u3.size; simp at this; omega
  go_wp2_with fail
  refine (k3 _).mono ?_
  rintro e w4 ⟨rfl, u4⟩
  obtain ⟨c4, f4⟩ := bcell u4
  have z4 : w3.heap.size < w4.heap.size := by have := u4.size; simp at this; omega
  have z4' : w2.heap.size < w4.heap.size := by omega
  clear k1 k2 k3
  go_wp2_with fail
  have B0 : Bx w (w4.alloc (.cells #[V (hiN s), V (loN s)] 30)) [(w4.heap.size, s), (w3.heap.size, y), (w2.heap.size, x)] :=
    (((((((Bx.nil w).grow u1).grow u2).new x 30).grow u3).new y 30).grow u4).new s 30
  generalize w4.alloc (.cells #[V (hiN s), V (loN s)] 30) = W at B0 ⊢
  generalize w2.heap.size = g1 at B0 ⊢
  generalize w3.heap.size = g2 at B0 ⊢
  generalize w4.heap.size = g3 at B0 ⊢
  clear u1 u2 u3 u4 c3 c4 f3 f4 z3 z4 z4'
  have BD := B0.grow (Up.drew W)
  clear B0
  have sof : ∀ {w' : World}, Bx w w' [(g3, s), (g2, y), (g1, x)] → S3 w g1 g2 g3 x y s w' :=
    fun h => ⟨(h.2 (g1, x) (by simp)).1, (h.2 (g1, x) (by simp)).2, (h.2 (g2, y) (by simp)).1, (h.2 (g2, y) (by simp)).2, (h.2 (g3, s) (by simp)).1, (h.2 (g3, s) (by simp)).2, h⟩
  have hs := sof BD
  go_region_held3 (fun w' => w'.cell? ⟨g1, 0, none⟩ = some (V (hiN x)) ∧ w'.cell? ⟨g1, 1, none⟩ = some (V (loN x)) ∧ w'.cell? ⟨g2, 0, none⟩ = some (V (hiN y)) ∧ w'.cell? ⟨g2, 1, none⟩ = some (V (loN y)) ∧ w'.cell? ⟨g3, 0, none⟩ = some (V (hiN s)) ∧ w'.cell? ⟨g3, 1, none⟩ = some (V (loN s)) ∧ Bx w w' [(g3, s), (g2, y), (g1, x)]) (exact hs)
    (first
    | (go_at_call 11; refine (k4 hs.2.2.2.2.2.2).mono ?_; clear hs; rintro e w5 ⟨rfl, b5⟩; have hs := sof b5)
    | (go_at_call 13; refine (k5 hs.2.2.2.2.2.2).mono ?_; clear hs; rintro e w6 ⟨rfl, b6⟩; have hs := sof b6)
    | (go_at_call_of 19 (loN x); refine (k6 hs.2.2.2.2.2.2).mono ?_; clear hs; rintro e w7 ⟨cc, rfl, hc7, b7⟩; have hs := sof b7)
    | (go_at_call_of 19 (loN y); refine (k7 hs.2.2.2.2.2.2).mono ?_; clear hs; rintro e w8 ⟨cd, rfl, hc8, b8⟩; have hs := sof b8))
  clear k4 k5 k6 k7
  have hd0 := hs
  have hd := sof (hs.2.2.2.2.2.2.grow (Up.drew _))
  clear hs
  go_wp2_with fail
  go_cut [61] (fun s61 wx => s61 = .bool false ∧ Bx w wx [(g3, s), (g2, y), (g1, x)])
  case first =>
    by_cases ht : s = 340282366920938463463374607431768211455
    · have t1 : (hiN s : Int) = 18446744073709551615 := by rw [ht]; rfl
      have t2 : (loN s : Int) = 18446744073709551615 := by rw [ht]; rfl
      clear hm hsum ht
      have hd := hd0
      obtain ⟨d1, d2, d3, d4, d5, d6, d7⟩ := hd
      go_quiet (fail)
      go_wp2_with fail
      go_meet
      case rel => exact ⟨rfl, d7.grow (Up.drewN _ _)⟩
    · obtain ⟨m1, m2⟩ := hm ht
      have k8 : ∀ {w' : World}, Bx w w' [(g3, s), (g2, y), (g1, x)] → Calls Try.prog 15 #[Wd s, Wd x] w' fun e w'' => e = .returned (Wd y) ∧ Bx w w'' [(g3, s), (g2, y), (g1, x)] := fun {w'} h => by
        have := Minus_any s x ns nx w'
        rw [m1] at this
        exact this.mono fun e w' ⟨h1, h2⟩ => ⟨h1, h.grow h2⟩
      have k9 : ∀ {w' : World}, Bx w w' [(g3, s), (g2, y), (g1, x)] → Calls Try.prog 15 #[Wd s, Wd y] w' fun e w'' => e = .returned (Wd x) ∧ Bx w w'' [(g3, s), (g2, y), (g1, x)] := fun {w'} h => by
        have := Minus_any s y ns ny w'
        rw [m2] at this
        exact this.mono fun e w' ⟨h1, h2⟩ => ⟨h1, h.grow h2⟩
      have hne : (hiN s : Int) = 18446744073709551615 → ((loN s : Int) == 18446744073709551615) = false := by
        intro h
        simp
        intro h2
        apply ht
        have := halves s
        omega
      clear hm hsum ht m1 m2
      by_cases t1 : (hiN s : Int) = 18446744073709551615
      · have t2 := hne t1
        clear hne
        go_region_held3 (fun w' => w'.cell? ⟨g1, 0, none⟩ = some (V (hiN x)) ∧ w'.cell? ⟨g1, 1, none⟩ = some (V (loN x)) ∧ w'.cell? ⟨g2, 0, none⟩ = some (V (hiN y)) ∧ w'.cell? ⟨g2, 1, none⟩ = some (V (loN y)) ∧ w'.cell? ⟨g3, 0, none⟩ = some (V (hiN s)) ∧ w'.cell? ⟨g3, 1, none⟩ = some (V (loN s)) ∧ Bx w w' [(g3, s), (g2, y), (g1, x)]) (exact hd)
          (first
          | (go_at_call_of 15 (loN x); refine (k8 hd.2.2.2.2.2.2).mono ?_; clear hd; rintro e w9 ⟨rfl, b9⟩; have hd := sof b9)
          | (go_at_call_of 15 (loN y); refine (k9 hd.2.2.2.2.2.2).mono ?_; clear hd; rintro e wA ⟨rfl, bA⟩; have hd := sof bA))
        all_goals (go_wp2_with fail; go_meet; case rel => exact ⟨rfl, hd.2.2.2.2.2.2⟩)
      · have t2 : ((hiN s : Int) == 18446744073709551615) = false := by simp; exact t1
        clear hne t1
        go_region_held3 (fun w' => w'.cell? ⟨g1, 0, none⟩ = some (V (hiN x)) ∧ w'.cell? ⟨g1, 1, none⟩ = some (V (loN x)) ∧ w'.cell? ⟨g2, 0, none⟩ = some (V (hiN y)) ∧ w'.cell? ⟨g2, 1, none⟩ = some (V (loN y)) ∧ w'.cell? ⟨g3, 0, none⟩ = some (V (hiN s)) ∧ w'.cell? ⟨g3, 1, none⟩ = some (V (loN s)) ∧ Bx w w' [(g3, s), (g2, y), (g1, x)]) (exact hd)
          (first
          | (go_at_call_of 15 (loN x); refine (k8 hd.2.2.2.2.2.2).mono ?_; clear hd; rintro e w9 ⟨rfl, b9⟩; have hd := sof b9)
          | (go_at_call_of 15 (loN y); refine (k9 hd.2.2.2.2.2.2).mono ?_; clear hd; rintro e wA ⟨rfl, bA⟩; have hd := sof bA))
        all_goals (go_wp2_with fail; go_meet; case rel => exact ⟨rfl, hd.2.2.2.2.2.2⟩)
  case rest =>
    obtain ⟨rfl, hB⟩ := hcut
    clear hd
    have HSum : Hid (b + c < 18446744073709551616 → a * (b + c) = s) := hsum
    clear hd0 hm hsum
    by_cases hbc : (c : Int) ≤ 18446744073709551615 - (b : Int)
    · have hT : b + c < 18446744073709551616 := by omega
      have hw : IntKind.u64.wrap ((b : Int) + (c : Int)) = ((b + c : Nat) : Int) := by rw [IntKind.wrap_u64]; omega
      have k10 : ∀ {w' : World}, Bx w w' [(g3, s), (g2, y), (g1, x)] → Calls Try.prog 11 #[V a, V (b + c)] w' fun e w'' => e = .returned (Wd s) ∧ Bx w w'' [(g3, s), (g2, y), (g1, x)] := fun {w'} h => by
        have := Product_any a (b + c) ha hT w'
        rw [HSum.out hT] at this
        exact this.mono fun e w' ⟨h1, h2⟩ => ⟨h1, h.grow h2⟩
      obtain ⟨T, eT⟩ : ∃ T, b + c = T := ⟨_, rfl⟩
      rw [eT] at hw
      simp only [eT] at k10
      clear eT hT
      go_wp2_with fail
      have hd := sof (hB.grow (Up.drew _))
      go_region_held3 (fun w' => w'.cell? ⟨g1, 0, none⟩ = some (V (hiN x)) ∧ w'.cell? ⟨g1, 1, none⟩ = some (V (loN x)) ∧ w'.cell? ⟨g2, 0, none⟩ = some (V (hiN y)) ∧ w'.cell? ⟨g2, 1, none⟩ = some (V (loN y)) ∧ w'.cell? ⟨g3, 0, none⟩ = some (V (hiN s)) ∧ w'.cell? ⟨g3, 1, none⟩ = some (V (loN s)) ∧ Bx w w' [(g3, s), (g2, y), (g1, x)]) (exact hd)
        (first
        | (go_at_call 11; refine (k10 hd.2.2.2.2.2.2).mono ?_; clear hd; rintro e w9 ⟨rfl, b9⟩; have hd := sof b9))
      all_goals (go_wp2; go_ret; exact ⟨rfl, hd.2.2.2.2.2.2.1⟩)
    · go_wp2
      go_ret
      exact ⟨rfl, hB.1⟩
end Go.Proofs.Ytknanpnbpmmlgaa

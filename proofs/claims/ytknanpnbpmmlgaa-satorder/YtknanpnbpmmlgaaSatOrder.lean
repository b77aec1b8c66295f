/- The law SatOrder returns true for every two numbers of 128 bits, and changes nothing that was there. -/
import Derived.Test.YtknanpnbpmmlgaaSatRing
set_option linter.unusedVariables false
namespace Go.Proofs.Ytknanpnbpmmlgaa
open Go Go.RowKit

/-- What Cmp answers, case by case, and turned round. -/
theorem cmp_cases (a b : Nat) : (a < b ∧ cmpN a b = -1 ∧ cmpN b a = 1) ∨ (a = b ∧ cmpN a b = 0 ∧ cmpN b a = 0) ∨ (b < a ∧ cmpN a b = 1 ∧ cmpN b a = -1) := by
  unfold cmpN
  rcases Nat.lt_trichotomy a b with h | h | h
  · left; exact ⟨h, if_pos h, by rw [if_neg (by omega), if_neg (by omega)]⟩
  · subst h; right; left; exact ⟨rfl, by simp, by simp⟩
  · right; right; exact ⟨h, by rw [if_neg (by omega), if_neg (by omega)], if_pos h⟩

theorem halves_lt (a b : Nat) : (hiN a < hiN b ∧ a < b) ∨ (hiN a = hiN b ∧ loN a < loN b ∧ a < b) ∨ (hiN a = hiN b ∧ loN a = loN b ∧ a = b) ∨ (hiN a = hiN b ∧ loN b < loN a ∧ b < a) ∨ (hiN b < hiN a ∧ b < a) := by
  have := halves a
  have := halves b
  have := lo_lt a
  have := lo_lt b
  omega

theorem Bx.top {w0 w : World} {L : List (Nat × Nat)} (h : Bx w0 w L) (g : Nat) (hm : (g, 340282366920938463463374607431768211455) ∈ L) : w.cell? ⟨g, 0, none⟩ = some (.int .u64 18446744073709551615) ∧ w.cell? ⟨g, 1, none⟩ = some (.int .u64 18446744073709551615) := by
  obtain ⟨h0, h1⟩ := h.2 _ hm
  have e0 : V (hiN 340282366920938463463374607431768211455) = .int .u64 18446744073709551615 := rfl
  have e1 : V (loN 340282366920938463463374607431768211455) = .int .u64 18446744073709551615 := rfl
  simp only at h0 h1
  rw [e0] at h0
  rw [e1] at h1
  exact ⟨h0, h1⟩

theorem Bx.two (w : World) (a b : Nat) (t : TypeId) : Bx w ((w.alloc (.cells #[V (hiN a), V (loN a)] t)).alloc (.cells #[V (hiN b), V (loN b)] t)) [(w.heap.size + 1, b), (w.heap.size, a)] := by
  have h := ((Bx.nil w).new a t).new b t
  rw [show (w.alloc (.cells #[V (hiN a), V (loN a)] t)).heap.size = w.heap.size + 1 by simp] at h
  exact h

/-- What the law's last lines ask of the numbers. -/
theorem order_num (a b : Nat) (ha : N128 a) (hb : N128 b) : N128 (minusN a b) ∧ (b < a → plusN (minusN a b) b = a ∧ minusN a b ≠ 0) ∧ (a ≤ b → minusN a b = 0) ∧ N128 (minusN 340282366920938463463374607431768211455 b) ∧
    (plusN a b = 340282366920938463463374607431768211455 → 0 ≤ cmpN a (minusN 340282366920938463463374607431768211455 b)) ∧
    (plusN a b ≠ 340282366920938463463374607431768211455 → cmpN a (minusN 340282366920938463463374607431768211455 b) < 0 ∧ minusN (plusN a b) a = b) := by
  refine ⟨minus_lt a b ha, fun h => ?_, fun h => ?_, minus_lt _ _ (by unfold N128; omega), fun h => ?_, fun h => ?_⟩
  · constructor
    · unfold minusN; rw [plus_small _ _ (by unfold N128 at *; omega)]; omega
    · unfold minusN; omega
  · unfold minusN; omega
  · unfold plusN at h; unfold cmpN minusN N128 at *
    split at h <;> split <;> first | omega | (split <;> omega)
  · unfold plusN at *; unfold cmpN minusN N128 at *
    split at h
    · rename_i h1
      rw [if_pos (by omega), if_pos h1]
      exact ⟨by decide, by omega⟩
    · exact absurd rfl h

set_option maxRecDepth 20000 in
set_option maxHeartbeats 3200000 in
theorem SatOrder_any (a b : Nat) (ha : N128 a) (hb : N128 b) (w : World) : Calls Try.prog 7 #[Wd a, Wd b] w fun e w' => e = .returned (.bool true) ∧ Up w w' := by
  have k1 := fun w => Cmp_any a b w
  have k2 := fun w => Cmp_any b a w
  have k3 := fun w => Minus_any a b ha hb w
  have HN : Hid (N128 a ∧ N128 b) := ⟨ha, hb⟩
  clear ha hb
  go_enter Try.func7, Try.ntmps7
  go_wp2_with fail
  have hB := Bx.two w a b 30
  generalize (w.alloc (.cells #[V (hiN a), V (loN a)] 30)).alloc (.cells #[V (hiN b), V (loN b)] 30) = W0 at hB ⊢
  generalize w.heap.size + 1 = g2 at hB ⊢
  generalize w.heap.size = g1 at hB ⊢
  refine (awake_any _).mono ?_
  rintro e w1 ⟨rfl, u1⟩
  have hB1 := hB.grow u1
  clear hB u1
  obtain ⟨a0, a1⟩ := hB1.2 (g1, a) (by simp)
  obtain ⟨b0, b1⟩ := hB1.2 (g2, b) (by simp)
  go_wp2_with fail
  refine (k1 _).mono ?_
  rintro e w2 ⟨rfl, u2⟩
  have hB2 := hB1.grow u2
  clear hB1 u2 a0 a1 b0 b1
  obtain ⟨a0, a1⟩ := hB2.2 (g1, a) (by simp)
  obtain ⟨b0, b1⟩ := hB2.2 (g2, b) (by simp)
  generalize hcE : cmpN a b = c at *
  have HC : Hid ((a < b ∧ c = -1 ∧ cmpN b a = 1) ∨ (a = b ∧ c = 0 ∧ cmpN b a = 0) ∨ (b < a ∧ c = 1 ∧ cmpN b a = -1)) := by
    have := cmp_cases a b
    rw [hcE] at this
    exact this
  clear hcE
  go_upto_region 4 with fail
  go_cut [6] (fun s6 wx => s6 = .bool (decide (a < b)) ∧ wx = w2)
  case first =>
    rcases halves_lt a b with ⟨h, h1⟩ | ⟨h, h0, h1⟩ | ⟨h, h0, h1⟩ | ⟨h, h0, h1⟩ | ⟨h, h1⟩
    · have H1 : Hid (decide (a < b) = true) := decide_eq_true h1
      have h' : (hiN a : Int) < (hiN b : Int) := by omega
      clear h h1
      go_wp2_with fail
      go_meet
      case rel => exact ⟨by rw [H1.out], rfl⟩
    · have H1 : Hid (decide (a < b) = true) := decide_eq_true h1
      have h' : ¬ (hiN a : Int) < (hiN b : Int) := by omega
      have h0' : (loN a : Int) < (loN b : Int) := by omega
      clear h1 h0
      go_wp2_with fail
      go_meet
      case rel => exact ⟨by rw [H1.out], rfl⟩
    · have H1 : Hid (decide (a < b) = false) := decide_eq_false (show ¬ a < b by omega)
      have h' : ¬ (hiN a : Int) < (hiN b : Int) := by omega
      have h0' : ¬ (loN a : Int) < (loN b : Int) := by omega
      clear h1 h0
      go_wp2_with fail
      go_meet
      case rel => exact ⟨by rw [H1.out], rfl⟩
    · have H1 : Hid (decide (a < b) = false) := decide_eq_false (show ¬ a < b by omega)
      have h' : ¬ (hiN a : Int) < (hiN b : Int) := by omega
      have h0' : ¬ (loN a : Int) < (loN b : Int) := by omega
      clear h1 h0
      go_wp2_with fail
      go_meet
      case rel => exact ⟨by rw [H1.out], rfl⟩
    · have H1 : Hid (decide (a < b) = false) := decide_eq_false (show ¬ a < b by omega)
      have h' : ¬ (hiN a : Int) < (hiN b : Int) := by omega
      have h0' : ¬ hiN a = hiN b := by omega
      clear h h1
      go_wp2_with fail
      go_meet
      case rel => exact ⟨by rw [H1.out], rfl⟩
  case rest =>
    obtain ⟨rfl, rfl⟩ := hcut
    go_upto_region 5 with fail
    go_cut [5, 6, 62] (fun s5 s6 s62 wx => s62 = .bool false ∧ s5 = .int .i64 c ∧ Bx w wx [(g2, b), (g1, a)])
    case first =>
      rcases HC.out with ⟨h, rfl, h2⟩ | ⟨h, rfl, h2⟩ | ⟨h, rfl, h2⟩
      · rw [decide_eq_true h]
        rw [h2] at k2
        have hne : hiN a = hiN b → ¬ loN a = loN b := by have := halves a; have := halves b; omega
        by_cases he : hiN a = hiN b
        · have hl := hne he
          clear hne HC
          simp only [Wd, he] at k2
          go_wp2_with fail
          go_at_call 19
          refine (k2 _).mono ?_
          rintro e w3 ⟨rfl, u3⟩
          go_wp2_with fail
          go_meet
          case rel => exact ⟨rfl, rfl, hB2.grow u3⟩
        · clear hne HC
          go_wp2_with fail
          go_at_call 19
          refine (k2 _).mono ?_
          rintro e w3 ⟨rfl, u3⟩
          go_wp2_with fail
          go_meet
          case rel => exact ⟨rfl, rfl, hB2.grow u3⟩
      · rw [decide_eq_false (show ¬ a < b by omega)]
        rw [h2] at k2
        subst h
        clear HC
        go_wp2_with fail
        go_at_call 19
        refine (k2 _).mono ?_
        rintro e w3 ⟨rfl, u3⟩
        go_wp2_with fail
        go_meet
        case rel => exact ⟨rfl, rfl, hB2.grow u3⟩
      · rw [decide_eq_false (show ¬ a < b by omega)]
        rw [h2] at k2
        have hne : hiN a = hiN b → ¬ loN a = loN b := by have := halves a; have := halves b; omega
        by_cases he : hiN a = hiN b
        · have hl := hne he
          clear hne HC
          simp only [Wd, he] at k2
          go_wp2_with fail
          go_at_call 19
          refine (k2 _).mono ?_
          rintro e w3 ⟨rfl, u3⟩
          go_wp2_with fail
          go_meet
          case rel => exact ⟨rfl, rfl, hB2.grow u3⟩
        · clear hne HC
          go_wp2_with fail
          go_at_call 19
          refine (k2 _).mono ?_
          rintro e w3 ⟨rfl, u3⟩
          go_wp2_with fail
          go_meet
          case rel => exact ⟨rfl, rfl, hB2.grow u3⟩
    case rest =>
      obtain ⟨rfl, rfl, hB3⟩ := hcut
      clear hB2 a0 a1 b0 b1
      obtain ⟨a0, a1⟩ := hB3.2 (g1, a) (by simp)
      obtain ⟨b0, b1⟩ := hB3.2 (g2, b) (by simp)
      go_wp2_with fail
      go_at_call 15
      refine (k3 _).mono ?_
      rintro e w3 ⟨rfl, u3⟩
      have hB4 := hB3.grow u3
      clear hB3 u3 a0 a1 b0 b1
      obtain ⟨a0, a1⟩ := hB4.2 (g1, a) (by simp)
      obtain ⟨b0, b1⟩ := hB4.2 (g2, b) (by simp)
      go_upto_region 8 with fail
      obtain ⟨nD, hgt, hle, nR, htop, hnot⟩ := order_num a b HN.out.1 HN.out.2
      have hB5 := hB4.new (minusN a b) 30
      obtain ⟨D, eD⟩ : ∃ D, minusN a b = D := ⟨_, rfl⟩
      rw [eD] at hB5 hgt hle nD ⊢
      have HTop := (show Hid _ from htop)
      have HNot := (show Hid _ from hnot)
      have HR := (show Hid (N128 _) from nR)
      clear eD k3 hB4 a0 a1 b0 b1 htop hnot nR
      generalize w3.alloc (.cells #[V (hiN D), V (loN D)] 30) = W at hB5 ⊢
      generalize w3.heap.size = g7 at hB5 ⊢
      go_cut [5, 82] (fun s5 s82 wx => s82 = .bool false ∧ Bx w wx [(g7, D), (g2, b), (g1, a)])
      case first =>
        have sof : ∀ {w' : World}, Bx w w' [(g7, D), (g2, b), (g1, a)] → S3 w g1 g2 g7 a b D w' := fun h => ⟨(h.2 (g1, a) (by simp)).1, (h.2 (g1, a) (by simp)).2, (h.2 (g2, b) (by simp)).1, (h.2 (g2, b) (by simp)).2, (h.2 (g7, D) (by simp)).1, (h.2 (g7, D) (by simp)).2, h⟩
        have low : a ≤ b → c ≤ 0 → True := fun _ _ => trivial
        rcases HC.out with ⟨h, rfl, h2⟩ | ⟨h, rfl, h2⟩ | ⟨h, rfl, h2⟩
        · have hD : D = 0 := hle (by omega)
          have t1 : (hiN D : Int) = 0 := by rw [hD]; rfl
          have t2 : (loN D : Int) = 0 := by rw [hD]; rfl
          obtain ⟨d1, d2, d3, d4, d5, d6, d7⟩ := sof hB5
          clear hD h h2 hgt hle HC low
          go_quiet (fail)
          go_wp2_with fail
          go_meet
          case rel => exact ⟨rfl, d7.grow (Up.drewN _ _)⟩
        · have hD : D = 0 := hle (by omega)
          have t1 : (hiN D : Int) = 0 := by rw [hD]; rfl
          have t2 : (loN D : Int) = 0 := by rw [hD]; rfl
          obtain ⟨d1, d2, d3, d4, d5, d6, d7⟩ := sof hB5
          clear hD h h2 hgt hle HC low
          go_quiet (fail)
          go_wp2_with fail
          go_meet
          case rel => exact ⟨rfl, d7.grow (Up.drewN _ _)⟩
        · obtain ⟨hp, hD⟩ := hgt h
          have k4 : ∀ {w' : World}, Bx w w' [(g7, D), (g2, b), (g1, a)] → Calls Try.prog 13 #[Wd D, Wd b] w' fun e w'' => e = .returned (Wd a) ∧ Bx w w'' [(g7, D), (g2, b), (g1, a)] := fun {w'} h => by
            have := Plus_any D b nD HN.out.2 w'
            rw [hp] at this
            exact this.mono fun e w' ⟨h1, h2⟩ => ⟨h1, h.grow h2⟩
          have hne : (hiN D : Int) = 0 → ((loN D : Int) == 0) = false := by
            intro h; simp; intro h2; apply hD; have := halves D; omega
          have hs := sof (hB5.grow (Up.drew _))
          clear hp hD h h2 hgt hle HC nD low
          by_cases t1 : (hiN D : Int) = 0
          · have t2 := hne t1
            clear hne
            go_region_held3 (fun w' => w'.cell? ⟨g1, 0, none⟩ = some (V (hiN a)) ∧ w'.cell? ⟨g1, 1, none⟩ = some (V (loN a)) ∧ w'.cell? ⟨g2, 0, none⟩ = some (V (hiN b)) ∧ w'.cell? ⟨g2, 1, none⟩ = some (V (loN b)) ∧ w'.cell? ⟨g7, 0, none⟩ = some (V (hiN D)) ∧ w'.cell? ⟨g7, 1, none⟩ = some (V (loN D)) ∧ Bx w w' [(g7, D), (g2, b), (g1, a)]) (exact hs)
              (first
              | (go_at_call 13; refine (k4 hs.2.2.2.2.2.2).mono ?_; clear hs; rintro e w5 ⟨rfl, b5⟩; have hs := sof b5))
            all_goals (go_wp2_with fail; go_meet; case rel => exact ⟨rfl, hs.2.2.2.2.2.2⟩)
          · have t2 : ((hiN D : Int) == 0) = false := by simp; omega
            clear hne t1
            go_region_held3 (fun w' => w'.cell? ⟨g1, 0, none⟩ = some (V (hiN a)) ∧ w'.cell? ⟨g1, 1, none⟩ = some (V (loN a)) ∧ w'.cell? ⟨g2, 0, none⟩ = some (V (hiN b)) ∧ w'.cell? ⟨g2, 1, none⟩ = some (V (loN b)) ∧ w'.cell? ⟨g7, 0, none⟩ = some (V (hiN D)) ∧ w'.cell? ⟨g7, 1, none⟩ = some (V (loN D)) ∧ Bx w w' [(g7, D), (g2, b), (g1, a)]) (exact hs)
              (first
              | (go_at_call 13; refine (k4 hs.2.2.2.2.2.2).mono ?_; clear hs; rintro e w5 ⟨rfl, b5⟩; have hs := sof b5))
            all_goals (go_wp2_with fail; go_meet; case rel => exact ⟨rfl, hs.2.2.2.2.2.2⟩)
      case rest =>
        obtain ⟨rfl, hB6⟩ := hcut
        clear hB5
        obtain ⟨b0, b1⟩ := hB6.2 (g2, b) (by simp)
        have k5 := fun w => Minus_any 340282366920938463463374607431768211455 b (by unfold N128; omega) HN.out.2 w
        have k6 := fun w => Plus_any a b HN.out.1 HN.out.2 w
        obtain ⟨R, eR⟩ : ∃ R, minusN 340282366920938463463374607431768211455 b = R := ⟨_, rfl⟩
        obtain ⟨T, eT⟩ : ∃ T, plusN a b = T := ⟨_, rfl⟩
        have nT : N128 T := eT ▸ plus_lt a b
        have htop : T = 340282366920938463463374607431768211455 → 0 ≤ cmpN a R := eT ▸ eR ▸ HTop.out
        have hnot : T ≠ 340282366920938463463374607431768211455 → cmpN a R < 0 ∧ minusN T a = b := eT ▸ eR ▸ HNot.out
        have nR : N128 R := eR ▸ HR.out
        rw [eR, wd_top] at k5
        rw [eT] at k6
        have HTop := (show Hid _ from htop)
        have HNot := (show Hid _ from hnot)
        have HR := (show Hid (N128 R) from nR)
        have HT := (show Hid (N128 T) from nT)
        clear eR eT htop hnot nR nT nD hgt hle
        go_upto_region 11 with fail
        have hB7 : Bx w (wc.alloc (.cells #[.int .u64 18446744073709551615, .int .u64 18446744073709551615] 30)) ((wc.heap.size, 340282366920938463463374607431768211455) :: [(g7, D), (g2, b), (g1, a)]) := hB6.new 340282366920938463463374607431768211455 30
        clear hB6 b0 b1
        generalize wc.alloc (.cells #[.int .u64 18446744073709551615, .int .u64 18446744073709551615] 30) = W8 at hB7 ⊢
        generalize wc.heap.size = g8 at hB7 ⊢
        obtain ⟨b0, b1⟩ := hB7.2 (g2, b) (by simp)
        obtain ⟨t0, t1⟩ : W8.cell? ⟨g8, 0, none⟩ = some (.int .u64 18446744073709551615) ∧ W8.cell? ⟨g8, 1, none⟩ = some (.int .u64 18446744073709551615) := hB7.top g8 (by simp)
        go_wp2_with fail
        go_at_call 15
        refine (k5 _).mono ?_
        rintro e w5 ⟨rfl, u5⟩
        have hB8 := (hB7.grow u5).new R 30
        clear hB7 u5 b0 b1 t0 t1 k5
        go_upto_region 12 with fail
        generalize w5.alloc (.cells #[V (hiN R), V (loN R)] 30) = W9 at hB8 ⊢
        generalize w5.heap.size = g9 at hB8 ⊢
        obtain ⟨a0, a1⟩ := hB8.2 (g1, a) (by simp)
        obtain ⟨b0, b1⟩ := hB8.2 (g2, b) (by simp)
        go_wp2_with fail
        go_at_call 13
        refine (k6 _).mono ?_
        rintro e w6 ⟨rfl, u6⟩
        have hB9 := (hB8.grow u6).new T 30
        clear hB8 u6 a0 a1 b0 b1 k6
        go_upto_region 13 with fail
        generalize w6.alloc (.cells #[V (hiN T), V (loN T)] 30) = W10 at hB9 ⊢
        generalize w6.heap.size = g10 at hB9 ⊢
        have hBD := hB9.grow (Up.drew W10)
        clear hB9
        have sof : ∀ {w' : World}, Bx w w' [(g10, T), (g9, R), (g8, 340282366920938463463374607431768211455), (g7, D), (g2, b), (g1, a)] → (fun w' => w'.cell? ⟨g1, 0, none⟩ = some (V (hiN a)) ∧ w'.cell? ⟨g1, 1, none⟩ = some (V (loN a)) ∧ w'.cell? ⟨g2, 0, none⟩ = some (V (hiN b)) ∧ w'.cell? ⟨g2, 1, none⟩ = some (V (loN b)) ∧ w'.cell? ⟨g8, 0, none⟩ = some (.int .u64 18446744073709551615) ∧ w'.cell? ⟨g8, 1, none⟩ = some (.int .u64 18446744073709551615) ∧ w'.cell? ⟨g9, 0, none⟩ = some (V (hiN R)) ∧ w'.cell? ⟨g9, 1, none⟩ = some (V (loN R)) ∧ w'.cell? ⟨g10, 0, none⟩ = some (V (hiN T)) ∧ w'.cell? ⟨g10, 1, none⟩ = some (V (loN T)) ∧ Bx w w' [(g10, T), (g9, R), (g8, 340282366920938463463374607431768211455), (g7, D), (g2, b), (g1, a)]) w' :=
          fun h => ⟨(h.2 (g1, a) (by simp)).1, (h.2 (g1, a) (by simp)).2, (h.2 (g2, b) (by simp)).1, (h.2 (g2, b) (by simp)).2, (h.top g8 (by simp)).1, (h.top g8 (by simp)).2, (h.2 (g9, R) (by simp)).1, (h.2 (g9, R) (by simp)).2, (h.2 (g10, T) (by simp)).1, (h.2 (g10, T) (by simp)).2, h⟩
        have hs := sof hBD
        clear hBD
        obtain ⟨C2, eC2⟩ : ∃ C2, cmpN a R = C2 := ⟨_, rfl⟩
        have k7 : ∀ {w' : World}, Bx w w' [(g10, T), (g9, R), (g8, 340282366920938463463374607431768211455), (g7, D), (g2, b), (g1, a)] → Calls Try.prog 19 #[Wd a, Wd R] w' fun e w'' => e = .returned (.int .i64 C2) ∧ Bx w w'' [(g10, T), (g9, R), (g8, 340282366920938463463374607431768211455), (g7, D), (g2, b), (g1, a)] := fun {w'} h => by
          have := Cmp_any a R w'
          rw [eC2] at this
          exact this.mono fun e w' ⟨h1, h2⟩ => ⟨h1, h.grow h2⟩
        by_cases hT : T = 340282366920938463463374607431768211455
        · have t1 : (hiN T : Int) = 18446744073709551615 := by rw [hT]; rfl
          have t2 : (loN T : Int) = 18446744073709551615 := by rw [hT]; rfl
          have hc2 : decide (0 ≤ C2) = true := decide_eq_true (by rw [← eC2]; exact HTop.out hT)
          clear hT eC2 HC HN HTop HNot HR HT k2
          refine wp_region_held_drew (S := (fun w' => w'.cell? ⟨g1, 0, none⟩ = some (V (hiN a)) ∧ w'.cell? ⟨g1, 1, none⟩ = some (V (loN a)) ∧ w'.cell? ⟨g2, 0, none⟩ = some (V (hiN b)) ∧ w'.cell? ⟨g2, 1, none⟩ = some (V (loN b)) ∧ w'.cell? ⟨g8, 0, none⟩ = some (.int .u64 18446744073709551615) ∧ w'.cell? ⟨g8, 1, none⟩ = some (.int .u64 18446744073709551615) ∧ w'.cell? ⟨g9, 0, none⟩ = some (V (hiN R)) ∧ w'.cell? ⟨g9, 1, none⟩ = some (V (loN R)) ∧ w'.cell? ⟨g10, 0, none⟩ = some (V (hiN T)) ∧ w'.cell? ⟨g10, 1, none⟩ = some (V (loN T)) ∧ Bx w w' [(g10, T), (g9, R), (g8, 340282366920938463463374607431768211455), (g7, D), (g2, b), (g1, a)])) (by kernel_rfl) hs (fun hs0 => ?_)
          refine wpAnyH_take (i := 0) (v := .agg #[V (hiN T), V (loN T)]) rfl (by kernel_rfl) (by kernel_rfl) (by kernel_rfl) (fun _ _ _ h => h) (Or.inl ⟨by kernel_rfl, by intro w hSw; (try dsimp only at hSw); go_simp⟩) hs ?_
          simp only [Act.put]
          refine wpAnyH_take (i := 1) (v := .agg #[.int .u64 18446744073709551615, .int .u64 18446744073709551615]) rfl (by kernel_rfl) (by kernel_rfl) (by kernel_rfl) (fun _ _ _ h => h) (Or.inl ⟨by kernel_rfl, by intro w hSw; (try dsimp only at hSw); go_simp⟩) hs ?_
          simp only [Act.put]
          refine wpAnyH_take (i := 2) (v := .bool true) rfl (by kernel_rfl) (by kernel_rfl) (by kernel_rfl) (fun _ _ _ h => h) (Or.inl ⟨by kernel_rfl, by intro w hSw; (try dsimp only at hSw); go_simp⟩) hs ?_
          simp only [Act.put]
          refine wpAnyH_take (i := 3) (v := .agg #[V (hiN a), V (loN a)]) rfl (by kernel_rfl) (by kernel_rfl) (by kernel_rfl) (fun _ _ _ h => h) (Or.inl ⟨by kernel_rfl, by intro w hSw; (try dsimp only at hSw); go_simp⟩) hs ?_
          simp only [Act.put]
          refine wpAnyH_take (i := 4) (v := .agg #[V (hiN R), V (loN R)]) rfl (by kernel_rfl) (by kernel_rfl) (by kernel_rfl) (fun _ _ _ h => h) (Or.inl ⟨by kernel_rfl, by intro w hSw; (try dsimp only at hSw); go_simp⟩) hs ?_
          simp only [Act.put]
          refine wpAnyH_ready (rs := [5]) (by kernel_rfl) (by simp) ?_
          refine AllReadyH.cons rfl (fun K hK => ?_) AllReadyH.nil
          go_simp
          refine (k7 hs.2.2.2.2.2.2.2.2.2.2).mono ?_
          clear hs
          rintro e w7 ⟨rfl, b7⟩
          have hs := sof b7
          refine hK.out _ _ hs (fun hHeld => ?_)
          clear hK K
          refine wpAnyH_take (i := 6) (v := .bool true) rfl (by kernel_rfl) (by kernel_rfl) (by kernel_rfl) (fun _ _ _ h => h) (Or.inl ⟨by kernel_rfl, by intro w hSw; (try dsimp only at hSw); go_simp⟩) hs ?_
          simp only [Act.put]
          refine wpAnyH_take (i := 7) (v := .bool true) rfl (by kernel_rfl) (by kernel_rfl) (by kernel_rfl) (fun _ _ _ h => h) (Or.inl ⟨by kernel_rfl, by intro w hSw; (try dsimp only at hSw); go_simp⟩) hs ?_
          simp only [Act.put]
          refine wpAnyH_take (i := 8) (v := .bool true) rfl (by kernel_rfl) (by kernel_rfl) (by kernel_rfl) (fun _ _ _ h => h) (Or.inl ⟨by kernel_rfl, by intro w hSw; (try dsimp only at hSw); go_simp⟩) hs ?_
          simp only [Act.put]
          refine wpAnyH_take (i := 9) (v := .agg #[V (hiN T), V (loN T)]) rfl (by kernel_rfl) (by kernel_rfl) (by kernel_rfl) (fun _ _ _ h => h) (Or.inl ⟨by kernel_rfl, by intro w hSw; (try dsimp only at hSw); go_simp⟩) hs ?_
          simp only [Act.put]
          refine wpAnyH_take (i := 10) (v := .agg #[.int .u64 18446744073709551615, .int .u64 18446744073709551615]) rfl (by kernel_rfl) (by kernel_rfl) (by kernel_rfl) (fun _ _ _ h => h) (Or.inl ⟨by kernel_rfl, by intro w hSw; (try dsimp only at hSw); go_simp⟩) hs ?_
          simp only [Act.put]
          refine wpAnyH_take (i := 11) (v := .bool true) rfl (by kernel_rfl) (by kernel_rfl) (by kernel_rfl) (fun _ _ _ h => h) (Or.inl ⟨by kernel_rfl, by intro w hSw; (try dsimp only at hSw); go_simp⟩) hs ?_
          simp only [Act.put]
          refine wpAnyH_take (i := 12) (v := .bool true) rfl (by kernel_rfl) (by kernel_rfl) (by kernel_rfl) (fun _ _ _ h => h) (Or.inl ⟨by kernel_rfl, by intro w hSw; (try dsimp only at hSw); go_simp⟩) hs ?_
          simp only [Act.put]
          refine wpAnyH_take (i := 13) (v := undef) rfl (by kernel_rfl) (by kernel_rfl) (by kernel_rfl) (fun _ _ _ h => h) (Or.inr ⟨by kernel_rfl, rfl⟩) hs ?_
          simp only [Act.put]
          refine wpAnyH_take (i := 14) (v := undef) rfl (by kernel_rfl) (by kernel_rfl) (by kernel_rfl) (fun _ _ _ h => h) (Or.inr ⟨by kernel_rfl, rfl⟩) hs ?_
          simp only [Act.put]
          refine wpAnyH_take (i := 15) (v := undef) rfl (by kernel_rfl) (by kernel_rfl) (by kernel_rfl) (fun _ _ _ h => h) (Or.inr ⟨by kernel_rfl, rfl⟩) hs ?_
          simp only [Act.put]
          refine wpAnyH_take (i := 16) (v := undef) rfl (by kernel_rfl) (by kernel_rfl) (by kernel_rfl) (fun _ _ _ h => h) (Or.inr ⟨by kernel_rfl, rfl⟩) hs ?_
          simp only [Act.put]
          refine wpAnyH_take (i := 17) (v := undef) rfl (by kernel_rfl) (by kernel_rfl) (by kernel_rfl) (fun _ _ _ h => h) (Or.inr ⟨by kernel_rfl, rfl⟩) hs ?_
          simp only [Act.put]
          refine wpAnyH_take (i := 18) (v := .bool true) rfl (by kernel_rfl) (by kernel_rfl) (by kernel_rfl) (fun _ _ _ h => h) (Or.inl ⟨by kernel_rfl, by intro w hSw; (try dsimp only at hSw); go_simp⟩) hs ?_
          simp only [Act.put]
          refine wpAnyH_take (i := 19) (v := .bool true) rfl (by kernel_rfl) (by kernel_rfl) (by kernel_rfl) (fun _ _ _ h => h) (Or.inl ⟨by kernel_rfl, by intro w hSw; (try dsimp only at hSw); go_simp⟩) hs ?_
          simp only [Act.put]
          refine wpAnyH_take (i := 20) (v := .bool true) rfl (by kernel_rfl) (by kernel_rfl) (by kernel_rfl) (fun _ _ _ h => h) (Or.inl ⟨by kernel_rfl, by intro w hSw; (try dsimp only at hSw); go_simp⟩) hs ?_
          simp only [Act.put]
          refine wpAnyH_done (by kernel_rfl) ?_ _
          go_wp2
          go_ret
          exact ⟨rfl, hs.2.2.2.2.2.2.2.2.2.2.1⟩
        · obtain ⟨hc2', hm⟩ := HNot.out hT
          have hc2 : decide (0 ≤ C2) = false := decide_eq_false (by rw [← eC2]; omega)
          have k8 : ∀ {w' : World}, Bx w w' [(g10, T), (g9, R), (g8, 340282366920938463463374607431768211455), (g7, D), (g2, b), (g1, a)] → Calls Try.prog 15 #[Wd T, Wd a] w' fun e w'' => e = .returned (Wd b) ∧ Bx w w'' [(g10, T), (g9, R), (g8, 340282366920938463463374607431768211455), (g7, D), (g2, b), (g1, a)] := fun {w'} h => by
            have := Minus_any T a HT.out HN.out.1 w'
            rw [hm] at this
            exact this.mono fun e w' ⟨h1, h2⟩ => ⟨h1, h.grow h2⟩
          have hne : (hiN T : Int) = 18446744073709551615 → ((loN T : Int) == 18446744073709551615) = false := by
            intro h; simp; intro h2; apply hT; have := halves T; omega
          clear hT eC2 HC HN HTop HNot HR HT k2 hm hc2'
          by_cases t1 : (hiN T : Int) = 18446744073709551615
          · have t2 := hne t1
            clear hne
            go_region_held3 (fun w' => w'.cell? ⟨g1, 0, none⟩ = some (V (hiN a)) ∧ w'.cell? ⟨g1, 1, none⟩ = some (V (loN a)) ∧ w'.cell? ⟨g2, 0, none⟩ = some (V (hiN b)) ∧ w'.cell? ⟨g2, 1, none⟩ = some (V (loN b)) ∧ w'.cell? ⟨g8, 0, none⟩ = some (.int .u64 18446744073709551615) ∧ w'.cell? ⟨g8, 1, none⟩ = some (.int .u64 18446744073709551615) ∧ w'.cell? ⟨g9, 0, none⟩ = some (V (hiN R)) ∧ w'.cell? ⟨g9, 1, none⟩ = some (V (loN R)) ∧ w'.cell? ⟨g10, 0, none⟩ = some (V (hiN T)) ∧ w'.cell? ⟨g10, 1, none⟩ = some (V (loN T)) ∧ Bx w w' [(g10, T), (g9, R), (g8, 340282366920938463463374607431768211455), (g7, D), (g2, b), (g1, a)]) (exact hs)
              (first
              | (go_at_call 19; refine (k7 hs.2.2.2.2.2.2.2.2.2.2).mono ?_; clear hs; rintro e w7 ⟨rfl, b7⟩; have hs := sof b7)
              | (go_at_call 15; refine (k8 hs.2.2.2.2.2.2.2.2.2.2).mono ?_; clear hs; rintro e w8 ⟨rfl, b8⟩; have hs := sof b8))
            all_goals (go_wp2; go_ret; exact ⟨rfl, hs.2.2.2.2.2.2.2.2.2.2.1⟩)
          · have t2 : ((hiN T : Int) == 18446744073709551615) = false := by simp; exact t1
            clear hne t1
            go_region_held3 (fun w' => w'.cell? ⟨g1, 0, none⟩ = some (V (hiN a)) ∧ w'.cell? ⟨g1, 1, none⟩ = some (V (loN a)) ∧ w'.cell? ⟨g2, 0, none⟩ = some (V (hiN b)) ∧ w'.cell? ⟨g2, 1, none⟩ = some (V (loN b)) ∧ w'.cell? ⟨g8, 0, none⟩ = some (.int .u64 18446744073709551615) ∧ w'.cell? ⟨g8, 1, none⟩ = some (.int .u64 18446744073709551615) ∧ w'.cell? ⟨g9, 0, none⟩ = some (V (hiN R)) ∧ w'.cell? ⟨g9, 1, none⟩ = some (V (loN R)) ∧ w'.cell? ⟨g10, 0, none⟩ = some (V (hiN T)) ∧ w'.cell? ⟨g10, 1, none⟩ = some (V (loN T)) ∧ Bx w w' [(g10, T), (g9, R), (g8, 340282366920938463463374607431768211455), (g7, D), (g2, b), (g1, a)]) (exact hs)
              (first
              | (go_at_call 19; refine (k7 hs.2.2.2.2.2.2.2.2.2.2).mono ?_; clear hs; rintro e w7 ⟨rfl, b7⟩; have hs := sof b7)
              | (go_at_call 15; refine (k8 hs.2.2.2.2.2.2.2.2.2.2).mono ?_; clear hs; rintro e w8 ⟨rfl, b8⟩; have hs := sof b8))
            all_goals (go_wp2; go_ret; exact ⟨rfl, hs.2.2.2.2.2.2.2.2.2.2.1⟩)
end Go.Proofs.Ytknanpnbpmmlgaa

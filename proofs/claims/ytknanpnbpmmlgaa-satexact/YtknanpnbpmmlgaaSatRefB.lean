/- sat: the reference's Cmp and Minus. -/
import Derived.Test.YtknanpnbpmmlgaaSatRefA
import Derived.Test.YtknanpnbpmmlgaaSatLadder
set_option linter.unusedVariables false
namespace Go.Proofs.Ytknanpnbpmmlgaa
open Go Go.RowKit

theorem val_split (a : List Nat) (j : Nat) (h : j < a.length) : valD a = valD (a.take j) + 65536 ^ j * (a[j] + 65536 * valD (a.drop (j + 1))) := by
  conv => lhs; rw [← List.take_append_drop j a]
  rw [val_append, List.length_take, Nat.min_eq_left (by omega), val_drop a j h]
theorem val_less {a b : List Nat} (j : Nat) (ha : j < a.length) (hb : j < b.length) (ga : Digs a) (gb : Digs b) (he : valD (a.drop (j + 1)) = valD (b.drop (j + 1))) (hl : a[j] < b[j]) : valD a < valD b := by
  rw [val_split a j ha, val_split b j hb, he]
  have h1 := val_lt _ (digs_take ga j)
  rw [List.length_take, Nat.min_eq_left (by omega)] at h1
  have h2 : 65536 ^ j * (a[j] + 1 + 65536 * valD (b.drop (j + 1))) ≤ 65536 ^ j * (b[j] + 65536 * valD (b.drop (j + 1))) := Nat.mul_le_mul_left _ (by omega)
  have h3 : 65536 ^ j * (a[j] + 1 + 65536 * valD (b.drop (j + 1))) = 65536 ^ j * (a[j] + 65536 * valD (b.drop (j + 1))) + 65536 ^ j := by
    rw [show a[j] + 1 + 65536 * valD (b.drop (j + 1)) = (a[j] + 65536 * valD (b.drop (j + 1))) + 1 by omega, Nat.mul_add, Nat.mul_one]
  omega

set_option maxHeartbeats 1600000 in
theorem RCmp_any (a b : Nat) (ha : N128 a) (hb : N128 b) (w : World) : Calls Try.prog 28 #[Wd a, Wd b] w fun e w' => e = .returned (.int .i64 (cmpN a b)) ∧ Up w w' := by
  have k1 := of_any (hiN a) (loN a) (hi_lt a ha) (lo_lt a)
  have k2 := of_any (hiN b) (loN b) (hi_lt b hb) (lo_lt b)
  have HD : Hid ((dig8 (hiN a) (loN a)).length = 8 ∧ Digs (dig8 (hiN a) (loN a)) ∧ valD (dig8 (hiN a) (loN a)) = a) := dig_of a ha
  have HE : Hid ((dig8 (hiN b) (loN b)).length = 8 ∧ Digs (dig8 (hiN b) (loN b)) ∧ valD (dig8 (hiN b) (loN b)) = b) := dig_of b hb
  clear ha hb
  obtain ⟨c, hc⟩ : ∃ c, cmpN a b = c := ⟨_, rfl⟩
  have HC : Hid (cmpN a b = c) := hc
  rw [hc]
  clear hc
  go_enter Try.func28, Try.ntmps28
  go_wp2_with fail
  refine (k1 _).mono ?_
  rintro e w1 ⟨v1, rfl, s1, u1⟩
  obtain ⟨c1, f1⟩ := bcell u1
  have z1 : w.heap.size + 1 < w1.heap.size := by have := u1.size; simp at this; omega
  go_wp2_with fail
  refine (k2 _).mono ?_
  rintro e w2 ⟨v2, rfl, s2, u2⟩
  have U : Up w w2 := (up2 _ _ _).trans (u1.trans u2)
  obtain ⟨ba, oa, pa, rfl, hxa⟩ := s1.up u2
  obtain ⟨bb, ob, pb, rfl, hxb⟩ := s2
  rw [HD.out.1, HE.out.1]
  generalize dig8 (hiN a) (loN a) = da at *
  generalize dig8 (hiN b) (loN b) = db at *
  have Ha : Hid (∀ (i : Nat) (h : i < da.length), w2.cell? ⟨ba, oa + i, none⟩ = some (V da[i])) := hxa
  have Hb : Hid (∀ (i : Nat) (h : i < db.length), w2.cell? ⟨bb, ob + i, none⟩ = some (V db[i])) := hxb
  have HU : Hid (Up w w2) := U
  clear hxa hxb k1 k2 c1 f1 s1 u1 u2 U z1
  go_wp2_with fail
  go_loopg [7] 8 (fun g i wr => ∃ k : Nat, (k : Int) ≤ 8 ∧ k = g ∧ i = .int .i64 ((k : Int) - 1) ∧ Hid (Up w2 wr ∧ valD (da.drop k) = valD (db.drop k)))
  case atStart => exact ⟨8, by omega, rfl, rfl, Up.refl _, by rw [List.drop_of_length_le (by rw [HD.out.1]; omega), List.drop_of_length_le (by rw [HE.out.1]; omega)]⟩
  case round =>
    obtain ⟨k, hk8, rfl, rfl, hH⟩ := hrel
    by_cases hk0 : (k : Int) = 0
    · obtain rfl : k = 0 := by omega
      have e1 : ((0 : Nat) : Int) - 1 = -1 := rfl
      have hf : c = 0 := by
        have := hH.out.2
        rw [List.drop_zero, List.drop_zero, HD.out.2.2, HE.out.2.2] at this
        rw [← HC.out, this]
        simp [cmpN]
      have Hu := HU.out.trans hH.out.1
      subst hf
      clear hH hk0 hk8
      go_wp2
      go_ret
      exact ⟨rfl, Hu⟩
    · obtain ⟨j, rfl⟩ : ∃ j, k = j + 1 := ⟨k - 1, by omega⟩
      have ej : (((j + 1 : Nat) : Int) - 1) = (j : Int) := by omega
      have hj8 : (j : Int) < 8 := by omega
      have hj0 : (0 : Int) ≤ (j : Int) := by omega
      have hja : j < da.length := by rw [HD.out.1]; omega
      have hjb : j < db.length := by rw [HE.out.1]; omega
      have ca := Ha.out j hja
      have cb := Hb.out j hjb
      rw [← hH.out.1.cell (World.block_lt_of_cell? w2 _ ca)] at ca
      rw [← hH.out.1.cell (World.block_lt_of_cell? w2 _ cb)] at cb
      have l1 : da[j] < db[j] → c = -1 := fun hl => by
        have := val_less j hja hjb HD.out.2.1 HE.out.2.1 hH.out.2 hl
        rw [HD.out.2.2, HE.out.2.2] at this
        rw [← HC.out]; exact if_pos this
      have l2 : db[j] < da[j] → c = 1 := fun hl => by
        have := val_less j hjb hja HE.out.2.1 HD.out.2.1 hH.out.2.symm hl
        rw [HD.out.2.2, HE.out.2.2] at this
        rw [← HC.out]; unfold cmpN; rw [if_neg (by omega), if_neg (by omega)]
      have l3 : da[j] = db[j] → valD (da.drop j) = valD (db.drop j) := fun he => by
        rw [val_drop da j hja, val_drop db j hjb, he, hH.out.2]
      obtain ⟨x, ex⟩ : ∃ x, da[j] = x := ⟨_, rfl⟩
      obtain ⟨y, ey⟩ : ∃ y, db[j] = y := ⟨_, rfl⟩
      rw [ex] at ca l1 l2 l3
      rw [ey] at cb l1 l2 l3
      have HUr : Hid (Up w2 wr) := hH.out.1
      rw [ej]
      clear ex ey hja hjb hH hk0 hk8 ej
      rcases Nat.lt_trichotomy x y with hl | hl | hl
      · have hc := l1 hl
        subst hc
        have hl' : (x : Int) < (y : Int) := by omega
        clear l1 l2 l3 hl
        go_wp2_with fail
        go_quiet (fail)
        go_wp2
        go_ret
        exact ⟨rfl, HU.out.trans (HUr.out.trans (upDrewN _ _))⟩
      · have H3 : Hid (valD (da.drop j) = valD (db.drop j)) := l3 hl
        subst hl
        clear l1 l2 l3
        go_wp2_with fail
        go_quiet (fail)
        go_wp2_with fail
        go_quiet (fail)
        go_wp2
        go_roundg j
        case measure => omega
        case rel => exact ⟨j, by omega, rfl, by go_num, HUr.out.trans (upDrewN _ _), H3.out⟩
      · have hc := l2 hl
        subst hc
        have hl' : ¬ (x : Int) < (y : Int) := by omega
        have hl2 : (y : Int) < (x : Int) := by omega
        clear l1 l2 l3 hl
        go_wp2_with fail
        go_quiet (fail)
        go_wp2_with fail
        go_quiet (fail)
        go_wp2
        go_ret
        exact ⟨rfl, HU.out.trans (HUr.out.trans ((upDrewN _ _).trans (upDrewN _ _)))⟩

/-- One step of the reference's subtraction. -/
theorem minus_step (ds : List Nat) (x y c : Nat) (k va vb : Nat) (hk : ds.length = k) (hd : Digs ds) (hx : x < 65536) (hy : y < 65536) (hc : c ≤ 1) (hv : valD ds + vb = va + 65536 ^ k * c) :
    1 - (x + 65536 - y - c) / 65536 ≤ 1 ∧ (ds ++ [(x + 65536 - y - c) % 65536]).length = k + 1 ∧ Digs (ds ++ [(x + 65536 - y - c) % 65536]) ∧
    valD (ds ++ [(x + 65536 - y - c) % 65536]) + (vb + 65536 ^ k * y) = (va + 65536 ^ k * x) + 65536 ^ (k + 1) * (1 - (x + 65536 - y - c) / 65536) := by
  refine ⟨by omega, by simp [hk], digs_snoc hd (Nat.mod_lt _ (by decide)), ?_⟩
  rw [val_snoc, hk, Nat.pow_succ]
  generalize 65536 ^ k = P at *
  obtain ⟨t, ht⟩ : ∃ t, x + 65536 - y - c = t := ⟨_, rfl⟩
  rw [ht]
  have h1 := Nat.div_add_mod t 65536
  have hq : t / 65536 ≤ 1 := by omega
  obtain ⟨q, eq⟩ : ∃ q, t / 65536 = q := ⟨_, rfl⟩
  obtain ⟨r, er⟩ : ∃ r, t % 65536 = r := ⟨_, rfl⟩
  rw [eq] at h1 hq ⊢
  rw [er] at h1 ⊢
  clear eq er
  have h2 : x + 65536 * (1 - q) = r + y + c := by omega
  have h3 : P * (x + 65536 * (1 - q)) = P * (r + y + c) := by rw [h2]
  rw [Nat.mul_add, Nat.mul_add, Nat.mul_add, ← Nat.mul_assoc] at h3
  omega

set_option maxHeartbeats 1600000 in
theorem RMinus_any (a b : Nat) (ha : N128 a) (hb : N128 b) (w : World) : Calls Try.prog 27 #[Wd a, Wd b] w fun e w' => e = .returned (Wd (minusN a b)) ∧ Up w w' := by
  have k0 := fun w => RCmp_any a b ha hb w
  have k1 := of_any (hiN a) (loN a) (hi_lt a ha) (lo_lt a)
  have k2 := of_any (hiN b) (loN b) (hi_lt b hb) (lo_lt b)
  have HD : Hid ((dig8 (hiN a) (loN a)).length = 8 ∧ Digs (dig8 (hiN a) (loN a)) ∧ valD (dig8 (hiN a) (loN a)) = a) := dig_of a ha
  have HE : Hid ((dig8 (hiN b) (loN b)).length = 8 ∧ Digs (dig8 (hiN b) (loN b)) ∧ valD (dig8 (hiN b) (loN b)) = b) := dig_of b hb
  have HA : Hid (N128 a) := ha
  clear ha hb
  have hcm := cmp_neg a b
  obtain ⟨c, hc⟩ : ∃ c, cmpN a b = c := ⟨_, rfl⟩
  rw [hc] at k0 hcm
  clear hc
  rcases hcm with ⟨hlt, rfl⟩ | ⟨hle, c', rfl, hc0, hc1⟩
  · have e0 : minusN a b = 0 := by unfold minusN; omega
    rw [e0, wd_zero]
    clear e0 hlt k1 k2
    go_enter Try.func27, Try.ntmps27
    go_wp2_with fail
    refine (k0 _).mono ?_
    rintro e w1 ⟨rfl, u1⟩
    obtain ⟨cc, ff⟩ := bcell u1
    have z1 : w.heap.size + 1 + 1 < w1.heap.size := by have := u1.size; simp at this; omega
    go_wp2
    exact bodyPost_ret (v := .agg #[.int .u64 0, .int .u64 0]) (by simp [results, Try.results27, go_sem, cc]) rfl ⟨rfl, (((up3 _ _ _ _).trans u1).setCell (by show w.heap.size ≤ w.heap.size + 1 + 1; omega) _).setCell (by show w.heap.size ≤ w.heap.size + 1 + 1; omega) _⟩
  · have hc2 : ¬ c < 0 := by omega
    have Hle : Hid (b ≤ a) := by show b ≤ a; omega
    clear hle hc0 hc1
    obtain ⟨R, hR⟩ : ∃ R, minusN a b = R := ⟨_, rfl⟩
    have HR : Hid (minusN a b = R) := hR
    rw [hR]
    clear hR
    go_enter Try.func27, Try.ntmps27
    go_wp2_with fail
    refine (k0 _).mono ?_
    rintro e w1 ⟨rfl, u1⟩
    obtain ⟨c1, f1⟩ := bcell u1
    have z1 : w.heap.size < w1.heap.size := by have := u1.size; simp at this; omega
    have z1' : w.heap.size + 1 < w1.heap.size := by have := u1.size; simp at this; omega
    go_wp2_with fail
    refine (k1 _).mono ?_
    rintro e w2 ⟨v1, rfl, s1, u2⟩
    have S1 : Hid (SlD w2 v1 _) := s1
    obtain ⟨c2, f2⟩ := bcell u2
    have z2 : w.heap.size + 1 < w2.heap.size := by have := u2.size; omega
    clear s1
    go_wp2_with fail
    refine (k2 _).mono ?_
    rintro e w3 ⟨v2, rfl, s2, u3⟩
    have uu : Up _ w3 := u1.trans (u2.trans u3)
    have hcc : ∀ u, Up w3 u → (u.cell? ⟨w.heap.size + 1 + 1, 0, none⟩ = some (.int .u64 0) ∧ u.cell? ⟨w.heap.size + 1 + 1, 1, none⟩ = some (.int .u64 0) ∧ u.frozen? ⟨w.heap.size + 1 + 1, 0, none⟩ = false ∧ u.frozen? ⟨w.heap.size + 1 + 1, 1, none⟩ = false) := by
      intro u hu
      obtain ⟨_, _, z0, _⟩ := three_boxes w (hiN a) (loN a) (hiN b) (loN b) 45
      have h2 : u.heap[w.heap.size + 1 + 1]? = _ := ((uu.trans hu).block _ (by simp)).trans z0
      refine ⟨?_, ?_, by simp [World.frozen?, h2], by simp [World.frozen?, h2]⟩
      · rw [cell_of_row _ _ _ _ _ _ h2]; rfl
      · rw [cell_of_row _ _ _ _ _ _ h2]; rfl
    have HCC : Hid (∀ u, Up w3 u → _) := hcc
    have U : Up w w3 := (up3 _ _ _ _).trans uu
    obtain ⟨ba, oa, pa, rfl, hxa⟩ := S1.out.up u3
    obtain ⟨bb, ob, pb, rfl, hxb⟩ := s2
    rw [HD.out.1, HE.out.1]
    generalize dig8 (hiN a) (loN a) = da at *
    generalize dig8 (hiN b) (loN b) = db at *
    have Ha : Hid (∀ (i : Nat) (h : i < da.length), w3.cell? ⟨ba, oa + i, none⟩ = some (V da[i])) := hxa
    have Hb : Hid (∀ (i : Nat) (h : i < db.length), w3.cell? ⟨bb, ob + i, none⟩ = some (V db[i])) := hxb
    have HU : Hid (Up w w3) := U
    clear hxa hxb k0 k1 k2 c1 f1 c2 f2 u1 u2 u3 U S1 z1 z1' z2 uu hcc hc2
    go_wp2_with fail
    go_loopg [7, 8, 9, 10] 8 (fun g s c i x wr => ∃ (k C : Nat) (ds : List Nat), k ≤ 8 ∧ g = 8 - k ∧ i = .int .i64 k ∧ c = V C ∧ Hid (OwnD wr w3.heap.size s ds ∧ Up w3 wr ∧ ds.length = k ∧ Digs ds ∧ C ≤ 1 ∧ valD ds + valD (db.take k) = valD (da.take k) + 65536 ^ k * C))
    case atStart => exact ⟨0, 0, [], by omega, rfl, rfl, rfl, own_empty w3, Up.alloc _ _, rfl, (by intro d hd; cases hd), by omega, by simp [valD]⟩
    case round =>
      obtain ⟨k, C, ds, hk, rfl, rfl, rfl, hH⟩ := hrel
      by_cases hlt : (k : Int) < 8
      · have hka : k < da.length := by rw [HD.out.1]; omega
        have hkb : k < db.length := by rw [HE.out.1]; omega
        have ca := Ha.out k hka
        have cb := Hb.out k hkb
        have gx := digs_get HD.out.2.1 k hka
        have gy := digs_get HE.out.2.1 k hkb
        have ta := val_take da k hka
        have tb := val_take db k hkb
        rw [← hH.out.2.1.cell (World.block_lt_of_cell? w3 _ ca)] at ca
        rw [← hH.out.2.1.cell (World.block_lt_of_cell? w3 _ cb)] at cb
        obtain ⟨x, ex⟩ : ∃ x, da[k] = x := ⟨_, rfl⟩
        obtain ⟨y, ey⟩ : ∃ y, db[k] = y := ⟨_, rfl⟩
        rw [ex] at ca gx ta
        rw [ey] at cb gy tb
        obtain ⟨h1, h2, h3, h4, h5, h6⟩ := hH.out
        have hs := minus_step ds x y C k _ _ h3 h4 gx gy h5 h6
        rw [← ta, ← tb] at hs
        have e1 : IntKind.u64.wrap ((x : Int) + 65536) = ((x + 65536 : Nat) : Int) := by rw [IntKind.wrap_u64]; omega
        have e2 : IntKind.u64.wrap (((x + 65536 : Nat) : Int) - (y : Int)) = ((x + 65536 - y : Nat) : Int) := by rw [IntKind.wrap_u64]; omega
        have e3 : IntKind.u64.wrap (((x + 65536 - y : Nat) : Int) - (C : Int)) = ((x + 65536 - y - C : Nat) : Int) := by rw [IntKind.wrap_u64]; omega
        obtain ⟨t1, et1⟩ : ∃ t, x + 65536 = t := ⟨_, rfl⟩
        rw [et1] at e1 e2 e3 hs
        obtain ⟨t2, et2⟩ : ∃ t, t1 - y = t := ⟨_, rfl⟩
        rw [et2] at e2 e3 hs
        obtain ⟨t, et⟩ : ∃ t, t2 - C = t := ⟨_, rfl⟩
        rw [et] at e3 hs
        have e4 : (t : Int) % 65536 = ((t % 65536 : Nat) : Int) := mod_n t 65536
        have e5 : (t : Int) / 65536 = ((t / 65536 : Nat) : Int) := by omega
        have e6 : IntKind.u64.wrap ((t / 65536 : Nat) : Int) = ((t / 65536 : Nat) : Int) := wrap_n _ (by omega)
        have e7 : IntKind.u64.wrap (1 - ((t / 65536 : Nat) : Int)) = ((1 - t / 65536 : Nat) : Int) := by rw [IntKind.wrap_u64]; omega
        obtain ⟨q, eq⟩ : ∃ q, t / 65536 = q := ⟨_, rfl⟩
        obtain ⟨r, er⟩ : ∃ r, t % 65536 = r := ⟨_, rfl⟩
        rw [eq] at e5 e6 e7 hs
        rw [er] at e4 hs
        obtain ⟨q1, eq1⟩ : ∃ q1, 1 - q = q1 := ⟨_, rfl⟩
        rw [eq1] at e7 hs
        have Hs : Hid _ := hs
        have H1 : Hid (OwnD wr w3.heap.size _ ds ∧ Up w3 wr ∧ ds.length = k) := ⟨h1, h2, h3⟩
        have Hk : Hid (k < 8) := by show k < 8; omega
        have hk0 : (0 : Int) ≤ (k : Int) := by omega
        clear hs h1 h2 h3 h4 h5 h6 hH ta tb gx gy ex ey et et1 et2 er eq eq1 hka hkb hk
        go_wp2_with fail
        go_quiet (fail)
        go_wp2_with (at_builtin; refine wpList_pushD _ rfl (.tmp 43) (.tmp 46) rfl w3.heap.size _ ds rfl r rfl ?ho ?hb ?hl ?_)
        case ho => exact H1.out.1.up (upDrewN _ _)
        case hb => exact (H1.out.2.1.trans (upDrewN _ _)).size
        case hl => rw [H1.out.2.2]; have := Hk.out; omega
        intro v' w' ho hb
        have Ho : Hid (OwnD w' w3.heap.size v' (ds ++ [r]) ∧ Up w3 w') := ⟨ho, Below.trans (H1.out.2.1.trans (upDrewN _ _)) hb⟩
        clear ho hb
        go_wp2
        go_roundg (8 - (k + 1))
        case measure => have := Hk.out; omega
        case rel =>
          obtain ⟨s1, s2, s3, s4⟩ := Hs.out
          exact ⟨k + 1, q1, ds ++ [r], Hk.out, rfl, by go_num, rfl, Ho.out.1, Ho.out.2, s2, s3, s1, s4⟩
      · obtain rfl : k = 8 := by omega
        obtain ⟨h1, h2, h3, h4, h5, h6⟩ := hH.out
        rw [List.take_of_length_le (show da.length ≤ 8 by rw [HD.out.1]; omega), List.take_of_length_le (show db.length ≤ 8 by rw [HE.out.1]; omega), HD.out.2.2, HE.out.2.2] at h6
        have hl := val_lt ds h4
        rw [h3] at hl
        have p8 : (65536 : Nat) ^ 8 = 340282366920938463463374607431768211456 := by decide
        rw [p8] at hl h6
        have hv : valD ds = R := by
          have := Hle.out
          rw [← HR.out]; unfold minusN
          have : C = 0 ∨ C = 1 := by omega
          rcases this with rfl | rfl <;> omega
        have hcap : capN (valD ds) = R := by rw [hv]; exact if_pos (by rw [← hv]; exact hl)
        have kn := number_any _ ds wr (h1.sl (by rintro rfl; simp at h3)) (by omega) (by omega) h4
        rw [hcap] at kn
        have H1 : Hid (Up w3 wr) := h2
        clear h1 h2 h3 h4 h5 h6 hH hlt hk hl p8 hv hcap
        go_wp2_with fail
        refine kn.mono ?_
        rintro e w4 ⟨rfl, u4⟩
        obtain ⟨d0, d1, g0, g1⟩ := HCC.out w4 (H1.out.trans u4)
        have U4 := HU.out.trans (H1.out.trans u4)
        clear kn
        go_wp2
        exact bodyPost_ret (v := Wd R) (by simp [results, Try.results27, go_sem, d0, d1]) rfl ⟨rfl, (U4.setCell (by show w.heap.size ≤ w.heap.size + 1 + 1; omega) _).setCell (by show w.heap.size ≤ w.heap.size + 1 + 1; omega) _⟩
end Go.Proofs.Ytknanpnbpmmlgaa

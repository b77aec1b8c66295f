/- gcra: what the law's room answers. -/
import Derived.Test.YtipbpppdifplbaaGcRoomB
import Derived.Deep.DeepCutAuto
set_option linter.unusedVariables false
namespace Go.Proofs.Ytipbpppdifplbaa
open Go Go.RowKit

theorem room_zero (gap slack now n : Nat) (vt vu : Value) (h : n = 0 ∨ gap = 0) (w : World) : Calls Try.prog 24 #[V gap, V slack, vt, vu, V now, V n] w fun e w' => e = .returned (.tuple #[.bool false, .int .u64 0]) ∧ Up w w' := by
  by_cases hn : n = 0
  · subst hn
    clear h
    go_enter Try.func24, Try.ntmps24
    go_wp2
    go_ret2
    exact ⟨rfl, Up.refl _⟩
  · obtain rfl : gap = 0 := by omega
    have hz := ne_int n hn
    clear h hn
    go_enter Try.func24, Try.ntmps24
    go_wp2
    go_ret2
    exact ⟨rfl, Up.refl _⟩

theorem cmp_pos (a b : Nat) : decide (0 < cmpN a b) = decide (b < a) := by
  unfold cmpN
  rcases Nat.lt_trichotomy a b with h | h | h
  · rw [if_pos h, decide_eq_false (by omega), decide_eq_false (by omega)]
  · rw [if_neg (by omega), if_pos h, decide_eq_false (by omega), decide_eq_false (by omega)]
  · rw [if_neg (by omega), if_neg (by omega), decide_eq_true (by omega), decide_eq_true (by omega)]

/-- The contracts that a round needs, whatever the numbers. -/
structure Kt (gap n m p q : Nat) : Prop where
  ofx : ∀ x, N64 x → RCall 22 #[V x] (Wd x)
  prod : ∀ x, N64 x → RCall 20 #[V x, V gap] (Wd (x * gap))
  plus : ∀ x y, N128 (x + y) → RCall 21 #[Wd x, Wd y] (Wd (x + y))
  pm : RCall 20 #[V m, V gap] (Wd p)
  pn : RCall 20 #[V n, V gap] (Wd q)
  bigp : ∀ a, a ≤ 18446744073709551615 → N128 (a + p)
  bigq : ∀ a, a ≤ 18446744073709551615 → N128 (a + q)
  cmp : ∀ x y, RCall 23 #[Wd x, Wd y] (.int .i64 (cmpN x y))

set_option maxHeartbeats 6400000 in
set_option maxRecDepth 20000 in
theorem room_walk (w : World) (gap slack now n m p q lim L : Nat) (f0 : Bool) (C0 : Int) (vt vu : Value) (T U : Nat → Nat) (zn : ((n : Int) == 0) = false) (zg : ((gap : Int) == 0) = false) (hL : (L : Int) ≤ 200)
    (ht : SlF w vt T L) (hu : SlF w vu U L) (hT : Hid (∀ i, i < L → N64 (T i) ∧ N64 (U i))) (hrun : Hid (gRunI gap T U L ≤ 18446744073709551615))
    (hm : IntKind.u64.wrap ((n : Int) - 1) = (m : Int))
    (k1 : RCall 22 #[V now] (Wd now)) (k2 : RCall 22 #[V slack] (Wd slack)) (k3 : RCall 21 #[Wd now, Wd slack] (Wd lim))
    (k4 : RCall 20 #[V m, V gap] (Wd p)) (k5 : RCall 21 #[Wd now, Wd p] (Wd (now + p))) (k6 : RCall 23 #[Wd (now + p), Wd lim] (.int .i64 C0)) (hC0 : decide (C0 ≤ 0) = f0)
    (k7 : RCall 20 #[V n, V gap] (Wd q)) (k8 : RCall 21 #[Wd now, Wd q] (Wd (now + q)))
    (k9 : RCall 22 #[.int .u64 0] (.agg #[.int .u64 0, .int .u64 0])) (hK : Hid (Kt gap n m p q)) (F : Bool) (X : Nat) (hF : Hid (gFI gap lim p T U f0 0 L = F)) (hX : Hid (gXI gap q T U (now + q) 0 L = X)) :
    Calls Try.prog 24 #[V gap, V slack, vt, vu, V now, V n] w fun e w' => ∃ (y : Nat) (sm : Bool), e = .returned (.tuple #[.bool (F && sm), V y]) ∧ Hid (X < 18446744073709551616 ∧ sm = true ∧ y = X ∨ 18446744073709551616 ≤ X ∧ sm = false ∧ y = 0) ∧ Up w w' := by
  obtain ⟨at0, ct, rfl, hxt⟩ := ht
  obtain ⟨au0, cu, rfl, hxu⟩ := hu
  go_enter Try.func24, Try.ntmps24
  go_wp2_with fail
  refine (k1 _).mono ?_
  rintro e w1 ⟨rfl, u1⟩
  go_wp2_with fail
  refine (k2 _).mono ?_
  rintro e w2 ⟨rfl, u2⟩
  go_wp2_with fail
  refine (k3 _).mono ?_
  rintro e w3 ⟨rfl, u3⟩
  have v3 := u1.trans (u2.trans u3)
  clear u1 u2 u3 k2 k3
  go_wp2_with fail
  have hb1 := Box1.new (w0 := w) v3.size lim 36
  have hv1 := v3.trans (Up.alloc w3 (.cells #[V (hiN lim), V (loN lim)] 36))
  generalize w3.heap.size = g1 at *
  generalize w3.alloc (.cells #[V (hiN lim), V (loN lim)] 36) = W1 at *
  clear v3
  have hs : W1.drew.cell? ⟨g1, 0, none⟩ = some (V (hiN lim)) ∧ W1.drew.cell? ⟨g1, 1, none⟩ = some (V (loN lim)) ∧ Up W1 W1.drew := ⟨hb1.c0, hb1.c1, Up.drew _⟩
  have sof : ∀ {w' : World}, Up W1 w' → w'.cell? ⟨g1, 0, none⟩ = some (V (hiN lim)) ∧ w'.cell? ⟨g1, 1, none⟩ = some (V (loN lim)) ∧ Up W1 w' := fun h => ⟨(hb1.grow h).c0, (hb1.grow h).c1, h⟩
  go_region_held3 (fun w' => w'.cell? ⟨g1, 0, none⟩ = some (V (hiN lim)) ∧ w'.cell? ⟨g1, 1, none⟩ = some (V (loN lim)) ∧ Up W1 w') (exact hs)
    (first
    | (go_at_call 22; refine (k1 _).mono ?_; rintro e w4 ⟨rfl, u4⟩; replace hs := sof (hs.2.2.trans u4))
    | (go_at_call 20; refine (k4 _).mono ?_; rintro e w5 ⟨rfl, u5⟩; replace hs := sof (hs.2.2.trans u5))
    | (go_at_call 21; refine (k5 _).mono ?_; rintro e w6 ⟨rfl, u6⟩; replace hs := sof (hs.2.2.trans u6))
    | (go_at_call 23; refine (k6 _).mono ?_; rintro e w7 ⟨rfl, u7⟩; replace hs := sof (hs.2.2.trans u7)))
  have hb1' := hb1.grow hs.2.2
  have hv2 := hv1.trans hs.2.2
  clear hs sof hb1 hv1 k4 k5 k6
  go_wp2_with fail
  refine (k1 _).mono ?_
  rintro e w8 ⟨rfl, u8⟩
  go_wp2_with fail
  refine (k7 _).mono ?_
  rintro e w9 ⟨rfl, u9⟩
  go_wp2_with fail
  refine (k8 _).mono ?_
  rintro e wA ⟨rfl, uA⟩
  have vA := u8.trans (u9.trans uA)
  have hb1 := hb1'.grow vA
  have hv3 := hv2.trans vA
  clear u8 u9 uA vA hb1' hv2 k1 k7 k8
  go_wp2_with fail
  have hb2 := Box1.new (w0 := w) hv3.size (now + q) 36
  have o12 : g1 < wA.heap.size := hb1.lt
  have hb1' := hb1.grow (Up.alloc wA (.cells #[V (hiN (now + q)), V (loN (now + q))] 36))
  have hv4 := hv3.trans (Up.alloc wA (.cells #[V (hiN (now + q)), V (loN (now + q))] 36))
  generalize wA.heap.size = g2 at *
  generalize wA.alloc (.cells #[V (hiN (now + q)), V (loN (now + q))] 36) = WB at *
  clear hb1 hv3
  refine (k9 _).mono ?_
  rintro e wC ⟨rfl, uC⟩
  have hR : Rm w (wC.alloc (.cells #[V (hiN 0), V (loN 0)] 36)) g1 g2 wC.heap.size lim (now + q) 0 :=
    ⟨o12, (hb2.grow uC).lt, (hb1'.grow uC).grow (Up.alloc _ _), (hb2.grow uC).grow (Up.alloc _ _), Box1.new (hv4.trans uC).size 0 _, (hv4.trans uC).trans (Up.alloc _ _)⟩
  clear hb1' hb2 uC hv4 k9 o12
  have H0 : Hid (gFI gap lim p T U f0 0 L = F ∧ gXI gap q T U (now + q) 0 L = X ∧ gRunI gap T U L + 0 ≤ 18446744073709551615) := ⟨hF.out, hX.out, hrun.out⟩
  have HR : Hid (Rm w (wC.alloc (.cells #[V (hiN 0), V (loN 0)] 36)) g1 g2 wC.heap.size lim (now + q) 0) := hR
  clear hF hX hrun hR hC0
  go_wp2
  generalize wC.heap.size = g3 at *
  go_loopg [15, 18] L (fun G a i wr => ∃ (k s x : Nat) (f : Bool), k ≤ L ∧ k = G ∧ a = .bool f ∧ i = .int .i64 ((k : Int) - 1) ∧ Hid (gFI gap lim p T U f s k = F ∧ gXI gap q T U x s k = X ∧ gRunI gap T U k + s ≤ 18446744073709551615) ∧ Hid (Rm w wr g1 g2 g3 lim x s))
  case atStart => exact ⟨L, 0, now + q, f0, Nat.le_refl _, rfl, rfl, rfl, H0.out, HR.out⟩
  case round =>
    obtain ⟨k, s, x, f, hkL, rfl, rfl, rfl, hI, hR⟩ := hrel
    clear H0 HR
    by_cases hk : k = 0
    · subst hk
      obtain ⟨rfl, rfl, _⟩ := hI.out
      obtain ⟨y, sm, kN, hN⟩ := Narrow_any x
      have HN : Hid (x < 18446744073709551616 ∧ sm = true ∧ y = x ∨ 18446744073709551616 ≤ x ∧ sm = false ∧ y = 0) := hN
      obtain ⟨c0, c1, hup⟩ : wr.cell? ⟨g2, 0, none⟩ = some (V (hiN x)) ∧ wr.cell? ⟨g2, 1, none⟩ = some (V (loN x)) ∧ Up w wr := ⟨hR.out.b2.c0, hR.out.b2.c1, hR.out.upw⟩
      clear hI hN hR hT hxt hxu
      go_wp2_with fail
      refine (kN _).mono ?_
      rintro e w5 ⟨rfl, u5⟩
      have hu5 := hup.trans u5
      clear kN u5 hup c0 c1
      cases f
      · go_wp2
        go_ret2
        exact ⟨_, sm, rfl, HN, hu5⟩
      · go_wp2
        go_ret2
        exact ⟨_, sm, rfl, HN, hu5⟩
    · obtain ⟨m', rfl⟩ : ∃ m', k = m' + 1 := ⟨k - 1, by omega⟩
      have hi : (((m' + 1 : Nat) : Int) - 1) = (m' : Int) := by omega
      rw [hi]
      have hkL' : m' < L := by omega
      obtain ⟨bt, ot, rfl, hct⟩ := hxt (by omega)
      obtain ⟨bu, ou, rfl, hcu⟩ := hxu (by omega)
      have ct0 := cell_up (hct m' hkL') hR.out.upw
      have cu0 := cell_up (hcu m' hkL') hR.out.upw
      obtain ⟨nT, nU⟩ := hT.out m' hkL'
      have hI2 : Hid (gFI gap lim p T U (if lim < T m' + (s + U m' * gap) + p then false else f) (s + U m' * gap) m' = F ∧ gXI gap q T U (if x < T m' + (s + U m' * gap) + q then T m' + (s + U m' * gap) + q else x) (s + U m' * gap) m' = X ∧ gRunI gap T U m' + (s + U m' * gap) ≤ 18446744073709551615) := ⟨hI.out.1, hI.out.2.1, (run_step gap T U m' s hI.out.2.2).1⟩
      have hfr := (run_step gap T U m' s hI.out.2.2).2
      have kP := hK.out.prod (U m') nU
      have kS := hK.out.plus s (U m' * gap) (by unfold N128; omega)
      have kT := hK.out.ofx (T m') nT
      have kF := hK.out.plus (T m') (s + U m' * gap) (by unfold N128; omega)
      have kFp := hK.out.plus (T m' + (s + U m' * gap)) p (hK.out.bigp _ hfr)
      have kC := hK.out.cmp (T m' + (s + U m' * gap) + p) lim
      have kE := hK.out.plus (T m' + (s + U m' * gap)) q (hK.out.bigq _ hfr)
      have kC2 := hK.out.cmp (T m' + (s + U m' * gap) + q) x
      have km := hK.out.pm
      have kn := hK.out.pn
      have hC1 := cmp_pos (T m' + (s + U m' * gap) + p) lim
      have hC2 := cmp_pos (T m' + (s + U m' * gap) + q) x
      obtain ⟨u, hu⟩ : ∃ u, U m' = u := ⟨_, rfl⟩
      obtain ⟨t, ht⟩ : ∃ t, T m' = t := ⟨_, rfl⟩
      rw [hu] at cu0 hI2 kP kS kF kFp kC kE kC2 hC1 hC2
      rw [ht] at ct0 hI2 kT kF kFp kC kE kC2 hC1 hC2
      obtain ⟨P, hP⟩ : ∃ P, u * gap = P := ⟨_, rfl⟩
      rw [hP] at hI2 kP kS kF kFp kC kE kC2 hC1 hC2
      obtain ⟨S, hS⟩ : ∃ S, s + P = S := ⟨_, rfl⟩
      rw [hS] at hI2 kS kF kFp kC kE kC2 hC1 hC2
      obtain ⟨fr, hfr'⟩ : ∃ fr, t + S = fr := ⟨_, rfl⟩
      rw [hfr'] at hI2 kF kFp kC kE kC2 hC1 hC2
      obtain ⟨fp, hfp⟩ : ∃ fp, fr + p = fp := ⟨_, rfl⟩
      rw [hfp] at hI2 kFp kC hC1
      obtain ⟨en, hen⟩ : ∃ en, fr + q = en := ⟨_, rfl⟩
      rw [hen] at hI2 kE kC2 hC2
      obtain ⟨C1, hC1'⟩ : ∃ C, cmpN fp lim = C := ⟨_, rfl⟩
      rw [hC1'] at kC hC1
      obtain ⟨C2, hC2'⟩ : ∃ C, cmpN en x = C := ⟨_, rfl⟩
      rw [hC2'] at kC2 hC2
      have Hm : Hid (m' + 1 ≤ L) := hkL
      have HC1 : Hid (decide (0 < C1) = decide (lim < fp)) := hC1
      have HC2 : Hid (decide (0 < C2) = decide (x < en)) := hC2
      clear hC1 hC2
      have Hct : Hid (∀ W, Up w W → W.cell? ⟨bt, ot + m', none⟩ = some (V t)) := fun W h => by rw [← ht]; exact cell_up (hct m' hkL') h
      clear hI hct hcu nT nU hfr hu ht hP hS hfr' hfp hen hC1' hC2' hT hK hk hkL hi
      go_wp2_with fail
      go_cut [17] (fun s17 wx => s17 = .pointer (some ⟨g3, 0, none⟩) ∧ Hid (Rm w wx g1 g2 g3 lim x S))
      case first =>
        --DEV{
        have hd := hR.out.grow (Up.drew wr)
        have c30 := hd.b3.c0
        have c31 := hd.b3.c1
        have f3 := hd.b3.fz
        have cu1 := cell_up cu0 (Up.drew wr)
        clear ct0 kT kF kFp kC kE kC2 km kn hI2
        go_region_with (first
          | (go_at_call 20; refine (kP _).mono ?_; rintro e w5 ⟨rfl, u5⟩; have h5 := hd.grow u5; have c50 := h5.b3.c0; have c51 := h5.b3.c1; have f5 := h5.b3.fz)
          | (go_at_call 21; refine (kS _).mono ?_; rintro e w6 ⟨rfl, u6⟩; have h6 := h5.grow u6; have c60 := h6.b3.c0; have c61 := h6.b3.c1; have f6 := h6.b3.fz))
        all_goals (
          go_wp2_with fail
          go_meet
          case rel => exact ⟨rfl, h6.set3 S⟩)
        --}DEV
      case rest =>
        obtain ⟨e17, hR1⟩ := hcut
        subst e17
        obtain ⟨W1r, rfl⟩ : ∃ W1r, W1r = wc := ⟨_, rfl⟩
        have ct1 : W1r.cell? ⟨bt, ot + m', none⟩ = some (V t) := Hct.out W1r hR1.out.upw
        clear kP kS ct0 cu0 hR
        go_wp2_with fail
        go_cut [19] (fun s19 wx => ∃ k, s19 = .pointer (some ⟨k, 0, none⟩) ∧ Hid (Rm w wx g1 g2 g3 lim x S ∧ Box1 w wx k fr))
        case first =>
          --DEV{
          have fup : ∀ {w' : World}, Up W1r w' → Rm w w' g1 g2 g3 lim x S := fun h => hR1.out.grow h
          have sof : ∀ {w' : World}, Up W1r w' → w'.cell? ⟨g3, 0, none⟩ = some (V (hiN S)) ∧ w'.cell? ⟨g3, 1, none⟩ = some (V (loN S)) ∧ w'.cell? ⟨bt, ot + m', none⟩ = some (V t) ∧ Up W1r w' := fun h => ⟨(fup h).b3.c0, (fup h).b3.c1, cell_up ct1 h, h⟩
          have hs := sof (Up.drew W1r)
          have hwB := hR1.out.upw.size
          clear ct1 kFp kC kE kC2 km kn hI2
          go_region_held3 (fun w' => w'.cell? ⟨g3, 0, none⟩ = some (V (hiN S)) ∧ w'.cell? ⟨g3, 1, none⟩ = some (V (loN S)) ∧ w'.cell? ⟨bt, ot + m', none⟩ = some (V t) ∧ Up W1r w') (first | exact hs | exact sof (Up.trans hs.2.2.2 (Up.alloc _ _)) | exact sof ((hs.2.2.2.setCell (by simp only; omega) _).setCell (by simp only; omega) _))
            (first
            | (go_at_call 22; refine (kT _).mono ?_; rintro e w4 ⟨rfl, u4⟩; (first | (replace hs := sof (Up.trans hs.2.2.2 u4)) | (have p4 := al_cell u4; obtain ⟨p40, p41, p4f, p4z⟩ := p4; replace hs := sof (Up.trans (Up.trans hs.2.2.2 (Up.alloc _ _)) u4))); have b4 : W1r.heap.size ≤ w4.heap.size := hs.2.2.2.size)
            | (go_at_call 21; refine (kF _).mono ?_; rintro e w5 ⟨rfl, u5⟩; obtain ⟨hc5, hf5⟩ := bcell u5; (first | (replace hs := sof (Up.trans hs.2.2.2 u5)) | (have p5 := al_cell' u5; obtain ⟨p50, p51, p5f, p5z⟩ := p5; replace hs := sof (Up.trans (Up.trans hs.2.2.2 (Up.alloc _ _)) u5)))))
          · go_wp2_with fail
            go_meet
            case rel => exact ⟨_, rfl, (fup hs.2.2.2).grow (Up.alloc _ _), Box1.new (Nat.le_trans hwB hs.2.2.2.size) fr _⟩
          · go_wp2_with fail
            go_meet
            case rel => exact ⟨_, rfl, fup ((hs.2.2.2.setCell (by simp only; omega) _).setCell (by simp only; omega) _), Box1.put (by omega) p50 p51 p5f fr⟩
          · go_wp2_with fail
            go_meet
            case rel => exact ⟨_, rfl, fup ((hs.2.2.2.setCell (by simp only; omega) _).setCell (by simp only; omega) _), Box1.put (by omega) (by rw [hc5 _ _ p4z]; exact p40) (by rw [hc5 _ _ p4z]; exact p41) (fun o => by rw [hf5 _ _ p4z]; exact p4f o) fr⟩
          --}DEV
        case rest =>
          obtain ⟨k, e19, hR2⟩ := hcut
          subst e19
          obtain ⟨W2r, rfl⟩ : ∃ W2r, W2r = wc := ⟨_, rfl⟩
          clear kT kF ct1
          go_wp2_with fail
          have sof2 : ∀ {w' : World}, Up W2r w' → w'.cell? ⟨k, 0, none⟩ = some (V (hiN fr)) ∧ w'.cell? ⟨k, 1, none⟩ = some (V (loN fr)) ∧ w'.cell? ⟨g1, 0, none⟩ = some (V (hiN lim)) ∧ w'.cell? ⟨g1, 1, none⟩ = some (V (loN lim)) ∧ Up W2r w' := fun h =>
            ⟨(hR2.out.2.grow h).c0, (hR2.out.2.grow h).c1, (hR2.out.1.grow h).b1.c0, (hR2.out.1.grow h).b1.c1, h⟩
          have hs := sof2 (Up.drew W2r)
          go_region_held3 (fun w' => w'.cell? ⟨k, 0, none⟩ = some (V (hiN fr)) ∧ w'.cell? ⟨k, 1, none⟩ = some (V (loN fr)) ∧ w'.cell? ⟨g1, 0, none⟩ = some (V (hiN lim)) ∧ w'.cell? ⟨g1, 1, none⟩ = some (V (loN lim)) ∧ Up W2r w') (exact hs)
            (first
            | (go_at_call 20; refine (km _).mono ?_; rintro e w4 ⟨rfl, u4⟩; replace hs := sof2 (Up.trans hs.2.2.2.2 u4))
            | (go_at_call 21; refine (kFp _).mono ?_; rintro e w5 ⟨rfl, u5⟩; replace hs := sof2 (Up.trans hs.2.2.2.2 u5))
            | (go_at_call 23; refine (kC _).mono ?_; rintro e w12 ⟨rfl, u12⟩; replace hs := sof2 (Up.trans hs.2.2.2.2 u12)))
          have hR3 : Hid (Rm w w12 g1 g2 g3 lim x S ∧ Box1 w w12 k fr) := ⟨hR2.out.1.grow hs.2.2.2.2, hR2.out.2.grow hs.2.2.2.2⟩
          clear hs sof2 km kFp kC hR2 u12
          generalize hO : decide (0 < C1) = o
          cases o
          · have hl : ¬ lim < fp := of_decide_eq_false (HC1.out.symm.trans hO)
            rw [if_neg hl] at hI2
            clear hl hO
            go_wp2_with fail
            go_cut [20] (fun s20 wx => ∃ j, s20 = .pointer (some ⟨j, 0, none⟩) ∧ Hid (Rm w wx g1 g2 g3 lim x S ∧ Box1 w wx j en))
            case first =>
              --DEV{
              have fup : ∀ {w' : World}, Up w12 w' → Rm w w' g1 g2 g3 lim x S := fun h => hR3.out.1.grow h
              have sof : ∀ {w' : World}, Up w12 w' → w'.cell? ⟨k, 0, none⟩ = some (V (hiN fr)) ∧ w'.cell? ⟨k, 1, none⟩ = some (V (loN fr)) ∧ Up w12 w' := fun h => ⟨(hR3.out.2.grow h).c0, (hR3.out.2.grow h).c1, h⟩
              have hs := sof (Up.drew w12)
              have hwB := hR3.out.1.upw.size
              clear kC2 hI2
              go_region_held3 (fun w' => w'.cell? ⟨k, 0, none⟩ = some (V (hiN fr)) ∧ w'.cell? ⟨k, 1, none⟩ = some (V (loN fr)) ∧ Up w12 w') (first | exact hs | exact sof (Up.trans hs.2.2 (Up.alloc _ _)) | exact sof ((hs.2.2.setCell (by simp only; omega) _).setCell (by simp only; omega) _))
                (first
                | (go_at_call 20; refine (kn _).mono ?_; rintro e w4 ⟨rfl, u4⟩; (first | (replace hs := sof (Up.trans hs.2.2 u4)) | (have p4 := al_cell u4; obtain ⟨p40, p41, p4f, p4z⟩ := p4; replace hs := sof (Up.trans (Up.trans hs.2.2 (Up.alloc _ _)) u4))); have b4 : w12.heap.size ≤ w4.heap.size := hs.2.2.size)
                | (go_at_call 21; refine (kE _).mono ?_; rintro e w5 ⟨rfl, u5⟩; obtain ⟨hc5, hf5⟩ := bcell u5; (first | (replace hs := sof (Up.trans hs.2.2 u5)) | (have p5 := al_cell' u5; obtain ⟨p50, p51, p5f, p5z⟩ := p5; replace hs := sof (Up.trans (Up.trans hs.2.2 (Up.alloc _ _)) u5)))))
              · go_wp2_with fail
                go_meet
                case rel => exact ⟨_, rfl, (fup hs.2.2).grow (Up.alloc _ _), Box1.new (Nat.le_trans hwB hs.2.2.size) en _⟩
              · go_wp2_with fail
                go_meet
                case rel => exact ⟨_, rfl, fup ((hs.2.2.setCell (by simp only; omega) _).setCell (by simp only; omega) _), Box1.put (by omega) p50 p51 p5f en⟩
              · go_wp2_with fail
                go_meet
                case rel => exact ⟨_, rfl, fup ((hs.2.2.setCell (by simp only; omega) _).setCell (by simp only; omega) _), Box1.put (by omega) (by rw [hc5 _ _ p4z]; exact p40) (by rw [hc5 _ _ p4z]; exact p41) (fun o => by rw [hf5 _ _ p4z]; exact p4f o) en⟩
              --}DEV
            case rest =>
              obtain ⟨j, e20, hR4⟩ := hcut
              subst e20
              clear kn kE hR3
              have c0 := hR4.out.2.c0
              have c1 := hR4.out.2.c1
              have c2 := hR4.out.1.b2.c0
              have c3 := hR4.out.1.b2.c1
              go_wp2_with fail
              refine (kC2 _).mono ?_
              rintro e w15 ⟨rfl, u15⟩
              have hR5 : Hid (Rm w w15 g1 g2 g3 lim x S ∧ Box1 w w15 j en) := ⟨hR4.out.1.grow u15, hR4.out.2.grow u15⟩
              clear c0 c1 c2 c3 u15 hR4 kC2
              by_cases hx : x < en
              · have hx' : (0 < C2) = True := eq_true (of_decide_eq_true (HC2.out.trans (decide_eq_true hx)))
                rw [if_pos hx] at hI2
                have d0 := hR5.out.2.c0
                have d1 := hR5.out.2.c1
                have d2 := hR5.out.1.b2.c0
                have d3 := hR5.out.1.b2.c1
                have d4 := hR5.out.1.b2.fz
                have hR6 : Hid (Rm w ((w15.setCell ⟨g2, 0, none⟩ (V (hiN en))).setCell ⟨g2, 1, none⟩ (V (loN en))) g1 g2 g3 lim en S) := hR5.out.1.set2 en
                clear hR5 hx
                go_wp2
                go_roundg m'
                case measure => omega
                case rel => exact ⟨m', S, en, _, Nat.le_of_succ_le Hm.out, rfl, rfl, by go_num, hI2, hR6⟩
              · have hx' : (0 < C2) = False := eq_false (of_decide_eq_false (HC2.out.trans (decide_eq_false hx)))
                rw [if_neg hx] at hI2
                have hR6 : Hid (Rm w w15 g1 g2 g3 lim x S) := hR5.out.1
                clear hR5 hx
                go_wp2
                go_roundg m'
                case measure => omega
                case rel => exact ⟨m', S, x, _, Nat.le_of_succ_le Hm.out, rfl, rfl, by go_num, hI2, hR6⟩
          · have hl : lim < fp := of_decide_eq_true (HC1.out.symm.trans hO)
            rw [if_pos hl] at hI2
            clear hl hO
            go_wp2_with fail
            go_cut [20] (fun s20 wx => ∃ j, s20 = .pointer (some ⟨j, 0, none⟩) ∧ Hid (Rm w wx g1 g2 g3 lim x S ∧ Box1 w wx j en))
            case first =>
              --DEV{
              have fup : ∀ {w' : World}, Up w12 w' → Rm w w' g1 g2 g3 lim x S := fun h => hR3.out.1.grow h
              have sof : ∀ {w' : World}, Up w12 w' → w'.cell? ⟨k, 0, none⟩ = some (V (hiN fr)) ∧ w'.cell? ⟨k, 1, none⟩ = some (V (loN fr)) ∧ Up w12 w' := fun h => ⟨(hR3.out.2.grow h).c0, (hR3.out.2.grow h).c1, h⟩
              have hs := sof (Up.drew w12)
              have hwB := hR3.out.1.upw.size
              clear kC2 hI2
              go_region_held3 (fun w' => w'.cell? ⟨k, 0, none⟩ = some (V (hiN fr)) ∧ w'.cell? ⟨k, 1, none⟩ = some (V (loN fr)) ∧ Up w12 w') (first | exact hs | exact sof (Up.trans hs.2.2 (Up.alloc _ _)) | exact sof ((hs.2.2.setCell (by simp only; omega) _).setCell (by simp only; omega) _))
                (first
                | (go_at_call 20; refine (kn _).mono ?_; rintro e w4 ⟨rfl, u4⟩; (first | (replace hs := sof (Up.trans hs.2.2 u4)) | (have p4 := al_cell u4; obtain ⟨p40, p41, p4f, p4z⟩ := p4; replace hs := sof (Up.trans (Up.trans hs.2.2 (Up.alloc _ _)) u4))); have b4 : w12.heap.size ≤ w4.heap.size := hs.2.2.size)
                | (go_at_call 21; refine (kE _).mono ?_; rintro e w5 ⟨rfl, u5⟩; obtain ⟨hc5, hf5⟩ := bcell u5; (first | (replace hs := sof (Up.trans hs.2.2 u5)) | (have p5 := al_cell' u5; obtain ⟨p50, p51, p5f, p5z⟩ := p5; replace hs := sof (Up.trans (Up.trans hs.2.2 (Up.alloc _ _)) u5)))))
              · go_wp2_with fail
                go_meet
                case rel => exact ⟨_, rfl, (fup hs.2.2).grow (Up.alloc _ _), Box1.new (Nat.le_trans hwB hs.2.2.size) en _⟩
              · go_wp2_with fail
                go_meet
                case rel => exact ⟨_, rfl, fup ((hs.2.2.setCell (by simp only; omega) _).setCell (by simp only; omega) _), Box1.put (by omega) p50 p51 p5f en⟩
              · go_wp2_with fail
                go_meet
                case rel => exact ⟨_, rfl, fup ((hs.2.2.setCell (by simp only; omega) _).setCell (by simp only; omega) _), Box1.put (by omega) (by rw [hc5 _ _ p4z]; exact p40) (by rw [hc5 _ _ p4z]; exact p41) (fun o => by rw [hf5 _ _ p4z]; exact p4f o) en⟩
              --}DEV
            case rest =>
              obtain ⟨j, e20, hR4⟩ := hcut
              subst e20
              clear kn kE hR3
              have c0 := hR4.out.2.c0
              have c1 := hR4.out.2.c1
              have c2 := hR4.out.1.b2.c0
              have c3 := hR4.out.1.b2.c1
              go_wp2_with fail
              refine (kC2 _).mono ?_
              rintro e w15 ⟨rfl, u15⟩
              have hR5 : Hid (Rm w w15 g1 g2 g3 lim x S ∧ Box1 w w15 j en) := ⟨hR4.out.1.grow u15, hR4.out.2.grow u15⟩
              clear c0 c1 c2 c3 u15 hR4 kC2
              by_cases hx : x < en
              · have hx' : (0 < C2) = True := eq_true (of_decide_eq_true (HC2.out.trans (decide_eq_true hx)))
                rw [if_pos hx] at hI2
                have d0 := hR5.out.2.c0
                have d1 := hR5.out.2.c1
                have d2 := hR5.out.1.b2.c0
                have d3 := hR5.out.1.b2.c1
                have d4 := hR5.out.1.b2.fz
                have hR6 : Hid (Rm w ((w15.setCell ⟨g2, 0, none⟩ (V (hiN en))).setCell ⟨g2, 1, none⟩ (V (loN en))) g1 g2 g3 lim en S) := hR5.out.1.set2 en
                clear hR5 hx
                go_wp2
                go_roundg m'
                case measure => omega
                case rel => exact ⟨m', S, en, _, Nat.le_of_succ_le Hm.out, rfl, rfl, by go_num, hI2, hR6⟩
              · have hx' : (0 < C2) = False := eq_false (of_decide_eq_false (HC2.out.trans (decide_eq_false hx)))
                rw [if_neg hx] at hI2
                have hR6 : Hid (Rm w w15 g1 g2 g3 lim x S) := hR5.out.1
                clear hR5 hx
                go_wp2
                go_roundg m'
                case measure => omega
                case rel => exact ⟨m', S, x, _, Nat.le_of_succ_le Hm.out, rfl, rfl, by go_num, hI2, hR6⟩
end Go.Proofs.Ytipbpppdifplbaa

/- The law PolicyOrder returns true for every input, and changes nothing that was there. -/
import Derived.Test.YthpcjhihifhmgaaPlFaceLaw
import Derived.Test.YthpcjhihifhmgaaPlNum2
set_option linter.unusedVariables false
namespace Go.Proofs.Ythpcjhihifhmgaa
open Go Go.RowKit

set_option maxRecDepth 20000 in
set_option maxHeartbeats 6400000 in
theorem order_walk (k : Int) (g s l p t i c t' i' c' now n t2 i2 c2 a b d x y z x' y' z' : Nat) (vd vw wv wu vu : Bool)
    (kv : ∀ w, Calls Try.prog 12 #[Pv k g s l p] w fun e w' => e = .returned (.bool vd) ∧ Up w w')
    (kVV : ∀ w, Calls Try.prog 21 #[Pv k g s l p, Lv t i c, Lv t i c] w fun e w' => e = .returned (.bool vd) ∧ Up w w')
    (kVW : ∀ w, Calls Try.prog 21 #[Pv k g s l p, Lv t i c, Lv t' i' c'] w fun e w' => e = .returned (.bool vw) ∧ Up w w')
    (kWV : ∀ w, Calls Try.prog 21 #[Pv k g s l p, Lv t' i' c', Lv t i c] w fun e w' => e = .returned (.bool wv) ∧ Up w w')
    (kWU : ∀ w, Calls Try.prog 21 #[Pv k g s l p, Lv t' i' c', Lv t2 i2 c2] w fun e w' => e = .returned (.bool wu) ∧ Up w w')
    (kVU : ∀ w, Calls Try.prog 21 #[Pv k g s l p, Lv t i c, Lv t2 i2 c2] w fun e w' => e = .returned (.bool vu) ∧ Up w w')
    (kM : ∀ w, Calls Try.prog 20 #[Pv k g s l p, Lv t i c, Lv t' i' c'] w fun e w' => e = .returned (Lv a b d) ∧ Up w w')
    (kTV : vd = true → ∀ w, Calls Try.prog 21 #[Pv k g s l p, Lv a b d, Lv t i c] w fun e w' => e = .returned (.bool true) ∧ Up w w')
    (kTW : vd = true → ∀ w, Calls Try.prog 21 #[Pv k g s l p, Lv a b d, Lv t' i' c'] w fun e w' => e = .returned (.bool true) ∧ Up w w')
    (kMV : ∀ w, Calls Try.prog 20 #[Pv k g s l p, Lv t i c, Lv t i c] w fun e w' => e = .returned (Lv x y z) ∧ Up w w')
    (kMW : ∀ w, Calls Try.prog 20 #[Pv k g s l p, Lv t' i' c', Lv t' i' c'] w fun e w' => e = .returned (Lv x' y' z') ∧ Up w w')
    (hno : vd = false → vw = false) (htop : vw = true → a = x ∧ b = y ∧ d = z) (htop' : vw = false → a = x' ∧ b = y' ∧ d = z') (htot : vd = true → vw = false → wv = true)
    (htr : vw = true → wu = true → vu = true) (heq : vd = true → decide (x = x' ∧ y = y' ∧ z = z') = (vw && wv)) (w : World) :
    Calls Try.prog 6 #[Ak k g s l p t i c t' i' c' now n, Lv t2 i2 c2] w fun e w' => e = .returned (.bool true) ∧ Up w w' := by
  have HTV : Hid (vd = true → ∀ w, Calls Try.prog 21 #[Pv k g s l p, Lv a b d, Lv t i c] w fun e w' => e = .returned (.bool true) ∧ Up w w') := kTV
  have HTW : Hid (vd = true → ∀ w, Calls Try.prog 21 #[Pv k g s l p, Lv a b d, Lv t' i' c'] w fun e w' => e = .returned (.bool true) ∧ Up w w') := kTW
  have Hno : Hid (vd = false → vw = false) := hno
  have H1 : Hid (vw = true → a = x ∧ b = y ∧ d = z) := htop
  have H2 : Hid (vw = false → a = x' ∧ b = y' ∧ d = z') := htop'
  have H3 : Hid (vd = true → vw = false → wv = true) := htot
  have H4 : Hid (vw = true → wu = true → vu = true) := htr
  have H5 : Hid (vd = true → decide (x = x' ∧ y = y' ∧ z = z') = (vw && wv)) := heq
  clear kTV kTW hno htop htop' htot htr heq
  go_enter Try.func6, Try.ntmps6
  have v1 := Up.refl w
  go_wp2_with fail
  refine (awake_any _).mono ?_
  rintro e w2 ⟨rfl, u1⟩
  have bA : Box w2 w.heap.size #[.int .i64 k, V g, V s, V l, V p, V t, V i, V c, V t', V i', V c', V now, V n] := ((Box.new _ _ _).alloc _).up u1
  have bU : Box w2 (w.heap.size + 1) #[V t2, V i2, V c2] := (Box.newAt (by simp)).up u1
  have g1 := (up2 _ _ _).trans u1
  replace v1 := v1.trans g1
  clear u1 g1
  obtain ⟨c0, c1, c2, c3, c4, c5, c6, c7, c8, c9, c10, c11, c12⟩ := bA.c13
  have zA := bA.lt
  obtain ⟨q0, q1, q2⟩ := bU.c3
  have zU := bU.lt
  generalize w.heap.size = B at *
  go_wp2_with fail
  refine (kv _).mono ?_
  rintro e w3 ⟨rfl, u2⟩
  have bP : Box w3 w2.heap.size #[.int .i64 k, V g, V s, V l, V p] := (Box.new _ _ _).up u2
  have g2 := (Up.alloc _ _).trans u2
  clear c0 c1 c2 c3 c4 c5 c6 c7 c8 c9 c10 c11 c12 zA q0 q1 q2 zU
  replace bA := bA.up g2
  replace bU := bU.up g2
  replace v1 := v1.trans g2
  clear u2 g2
  obtain ⟨c0, c1, c2, c3, c4, c5, c6, c7, c8, c9, c10, c11, c12⟩ := bA.c13
  have zA := bA.lt
  obtain ⟨q0, q1, q2⟩ := bU.c3
  have zU := bU.lt
  obtain ⟨p0, p1, p2, p3, p4⟩ := bP.c5
  have zP := bP.lt
  generalize w2.heap.size = D at *
  cases vd
  · obtain rfl := Hno.out rfl
    go_wp2_with fail
    refine (kVV _).mono ?_
    rintro e w4 ⟨rfl, u3⟩
    clear c0 c1 c2 c3 c4 c5 c6 c7 c8 c9 c10 c11 c12 zA q0 q1 q2 zU p0 p1 p2 p3 p4 zP
    replace bA := bA.up u3
    replace bU := bU.up u3
    replace bP := bP.up u3
    replace v1 := v1.trans u3
    clear u3
    obtain ⟨c0, c1, c2, c3, c4, c5, c6, c7, c8, c9, c10, c11, c12⟩ := bA.c13
    have zA := bA.lt
    obtain ⟨q0, q1, q2⟩ := bU.c3
    have zU := bU.lt
    obtain ⟨p0, p1, p2, p3, p4⟩ := bP.c5
    have zP := bP.lt
    go_wp2_with fail
    refine (kVW _).mono ?_
    rintro e w5 ⟨rfl, u4⟩
    clear c0 c1 c2 c3 c4 c5 c6 c7 c8 c9 c10 c11 c12 zA q0 q1 q2 zU p0 p1 p2 p3 p4 zP
    replace bA := bA.up u4
    replace bU := bU.up u4
    replace bP := bP.up u4
    replace v1 := v1.trans u4
    clear u4
    obtain ⟨c0, c1, c2, c3, c4, c5, c6, c7, c8, c9, c10, c11, c12⟩ := bA.c13
    have zA := bA.lt
    obtain ⟨q0, q1, q2⟩ := bU.c3
    have zU := bU.lt
    obtain ⟨p0, p1, p2, p3, p4⟩ := bP.c5
    have zP := bP.lt
    go_wp2
    go_ret
    exact ⟨rfl, v1⟩
  · have kTV := HTV.out rfl
    have kTW := HTW.out rfl
    clear HTV HTW Hno
    replace H3 : Hid (vw = false → wv = true) := H3.out rfl
    replace H5 : Hid (decide (x = x' ∧ y = y' ∧ z = z') = (vw && wv)) := H5.out rfl
    go_wp2_with fail
    refine (kVW _).mono ?_
    rintro e w4 ⟨rfl, u3⟩
    clear c0 c1 c2 c3 c4 c5 c6 c7 c8 c9 c10 c11 c12 zA q0 q1 q2 zU p0 p1 p2 p3 p4 zP
    replace bA := bA.up u3
    replace bU := bU.up u3
    replace bP := bP.up u3
    replace v1 := v1.trans u3
    clear u3
    obtain ⟨c0, c1, c2, c3, c4, c5, c6, c7, c8, c9, c10, c11, c12⟩ := bA.c13
    have zA := bA.lt
    obtain ⟨q0, q1, q2⟩ := bU.c3
    have zU := bU.lt
    obtain ⟨p0, p1, p2, p3, p4⟩ := bP.c5
    have zP := bP.lt
    go_wp2_with fail
    refine (kWV _).mono ?_
    rintro e w5 ⟨rfl, u4⟩
    clear c0 c1 c2 c3 c4 c5 c6 c7 c8 c9 c10 c11 c12 zA q0 q1 q2 zU p0 p1 p2 p3 p4 zP
    replace bA := bA.up u4
    replace bU := bU.up u4
    replace bP := bP.up u4
    replace v1 := v1.trans u4
    clear u4
    obtain ⟨c0, c1, c2, c3, c4, c5, c6, c7, c8, c9, c10, c11, c12⟩ := bA.c13
    have zA := bA.lt
    obtain ⟨q0, q1, q2⟩ := bU.c3
    have zU := bU.lt
    obtain ⟨p0, p1, p2, p3, p4⟩ := bP.c5
    have zP := bP.lt
    go_wp2_with fail
    refine (kWU _).mono ?_
    rintro e w6 ⟨rfl, u5⟩
    clear c0 c1 c2 c3 c4 c5 c6 c7 c8 c9 c10 c11 c12 zA q0 q1 q2 zU p0 p1 p2 p3 p4 zP
    replace bA := bA.up u5
    replace bU := bU.up u5
    replace bP := bP.up u5
    replace v1 := v1.trans u5
    clear u5
    obtain ⟨c0, c1, c2, c3, c4, c5, c6, c7, c8, c9, c10, c11, c12⟩ := bA.c13
    have zA := bA.lt
    obtain ⟨q0, q1, q2⟩ := bU.c3
    have zU := bU.lt
    obtain ⟨p0, p1, p2, p3, p4⟩ := bP.c5
    have zP := bP.lt
    go_wp2_with fail
    refine (kVU _).mono ?_
    rintro e w7 ⟨rfl, u6⟩
    clear c0 c1 c2 c3 c4 c5 c6 c7 c8 c9 c10 c11 c12 zA q0 q1 q2 zU p0 p1 p2 p3 p4 zP
    replace bA := bA.up u6
    replace bU := bU.up u6
    replace bP := bP.up u6
    replace v1 := v1.trans u6
    clear u6
    obtain ⟨c0, c1, c2, c3, c4, c5, c6, c7, c8, c9, c10, c11, c12⟩ := bA.c13
    have zA := bA.lt
    obtain ⟨q0, q1, q2⟩ := bU.c3
    have zU := bU.lt
    obtain ⟨p0, p1, p2, p3, p4⟩ := bP.c5
    have zP := bP.lt
    go_wp2_with fail
    refine (kM _).mono ?_
    rintro e w8 ⟨rfl, u7⟩
    clear c0 c1 c2 c3 c4 c5 c6 c7 c8 c9 c10 c11 c12 zA q0 q1 q2 zU p0 p1 p2 p3 p4 zP
    replace bA := bA.up u7
    replace bU := bU.up u7
    replace bP := bP.up u7
    replace v1 := v1.trans u7
    clear u7
    obtain ⟨c0, c1, c2, c3, c4, c5, c6, c7, c8, c9, c10, c11, c12⟩ := bA.c13
    have zA := bA.lt
    obtain ⟨q0, q1, q2⟩ := bU.c3
    have zU := bU.lt
    obtain ⟨p0, p1, p2, p3, p4⟩ := bP.c5
    have zP := bP.lt
    go_wp2_with fail
    refine (kVV _).mono ?_
    rintro e w9 ⟨rfl, u8⟩
    have bT : Box w9 w8.heap.size #[V a, V b, V d] := (Box.new _ _ _).up u8
    have g8 := (Up.alloc _ _).trans u8
    clear c0 c1 c2 c3 c4 c5 c6 c7 c8 c9 c10 c11 c12 zA q0 q1 q2 zU p0 p1 p2 p3 p4 zP
    replace bA := bA.up g8
    replace bU := bU.up g8
    replace bP := bP.up g8
    replace v1 := v1.trans g8
    clear u8 g8
    obtain ⟨c0, c1, c2, c3, c4, c5, c6, c7, c8, c9, c10, c11, c12⟩ := bA.c13
    have zA := bA.lt
    obtain ⟨q0, q1, q2⟩ := bU.c3
    have zU := bU.lt
    obtain ⟨p0, p1, p2, p3, p4⟩ := bP.c5
    have zP := bP.lt
    obtain ⟨r0, r1, r2⟩ := bT.c3
    have zT := bT.lt
    generalize w8.heap.size = E at *
    clear kv kVV kVW kWV kWU kVU kM
    cases vw
    · obtain rfl := H3.out rfl
      obtain ⟨rfl, rfl, rfl⟩ := H2.out rfl
      have h5 : decide (x = a ∧ y = b ∧ z = d) = false := H5.out
      rw [decide_eq_false_iff_not] at h5
      have q5 := fun w => level_eq x y z a b d w
      have q6 := fun w => level_eq a b d x y z w
      have q7 := fun w => level_eq a b d a b d w
      rw [decide_eq_false h5] at q5
      rw [decide_eq_false (fun h => h5 ⟨h.1.symm, h.2.1.symm, h.2.2.symm⟩)] at q6
      rw [decide_eq_true ⟨rfl, rfl, rfl⟩] at q7
      clear H1 H2 H3 H4 H5 h5
      go_wp2_with fail
      refine (kTV _).mono ?_
      rintro e w10 ⟨rfl, u9⟩
      clear c0 c1 c2 c3 c4 c5 c6 c7 c8 c9 c10 c11 c12 zA q0 q1 q2 zU p0 p1 p2 p3 p4 zP r0 r1 r2 zT
      replace bA := bA.up u9
      replace bU := bU.up u9
      replace bP := bP.up u9
      replace bT := bT.up u9
      replace v1 := v1.trans u9
      clear u9
      obtain ⟨c0, c1, c2, c3, c4, c5, c6, c7, c8, c9, c10, c11, c12⟩ := bA.c13
      have zA := bA.lt
      obtain ⟨q0, q1, q2⟩ := bU.c3
      have zU := bU.lt
      obtain ⟨p0, p1, p2, p3, p4⟩ := bP.c5
      have zP := bP.lt
      obtain ⟨r0, r1, r2⟩ := bT.c3
      have zT := bT.lt
      go_wp2_with fail
      refine (kTW _).mono ?_
      rintro e w11 ⟨rfl, u10⟩
      clear c0 c1 c2 c3 c4 c5 c6 c7 c8 c9 c10 c11 c12 zA q0 q1 q2 zU p0 p1 p2 p3 p4 zP r0 r1 r2 zT
      replace bA := bA.up u10
      replace bU := bU.up u10
      replace bP := bP.up u10
      replace bT := bT.up u10
      replace v1 := v1.trans u10
      clear u10
      obtain ⟨c0, c1, c2, c3, c4, c5, c6, c7, c8, c9, c10, c11, c12⟩ := bA.c13
      have zA := bA.lt
      obtain ⟨q0, q1, q2⟩ := bU.c3
      have zU := bU.lt
      obtain ⟨p0, p1, p2, p3, p4⟩ := bP.c5
      have zP := bP.lt
      obtain ⟨r0, r1, r2⟩ := bT.c3
      have zT := bT.lt
      go_wp2_with fail
      refine (kMV _).mono ?_
      rintro e w12 ⟨rfl, u11⟩
      clear c0 c1 c2 c3 c4 c5 c6 c7 c8 c9 c10 c11 c12 zA q0 q1 q2 zU p0 p1 p2 p3 p4 zP r0 r1 r2 zT
      replace bA := bA.up u11
      replace bU := bU.up u11
      replace bP := bP.up u11
      replace bT := bT.up u11
      replace v1 := v1.trans u11
      clear u11
      obtain ⟨c0, c1, c2, c3, c4, c5, c6, c7, c8, c9, c10, c11, c12⟩ := bA.c13
      have zA := bA.lt
      obtain ⟨q0, q1, q2⟩ := bU.c3
      have zU := bU.lt
      obtain ⟨p0, p1, p2, p3, p4⟩ := bP.c5
      have zP := bP.lt
      obtain ⟨r0, r1, r2⟩ := bT.c3
      have zT := bT.lt
      go_wp2_with fail
      refine (kMW _).mono ?_
      rintro e w13 ⟨rfl, u12⟩
      have bM : Box w13 w12.heap.size #[V x, V y, V z] := (Box.new _ _ _).up u12
      have g12 := (Up.alloc _ _).trans u12
      clear c0 c1 c2 c3 c4 c5 c6 c7 c8 c9 c10 c11 c12 zA q0 q1 q2 zU p0 p1 p2 p3 p4 zP r0 r1 r2 zT
      replace bA := bA.up g12
      replace bU := bU.up g12
      replace bP := bP.up g12
      replace bT := bT.up g12
      replace v1 := v1.trans g12
      clear u12 g12
      obtain ⟨c0, c1, c2, c3, c4, c5, c6, c7, c8, c9, c10, c11, c12⟩ := bA.c13
      have zA := bA.lt
      obtain ⟨q0, q1, q2⟩ := bU.c3
      have zU := bU.lt
      obtain ⟨p0, p1, p2, p3, p4⟩ := bP.c5
      have zP := bP.lt
      obtain ⟨r0, r1, r2⟩ := bT.c3
      have zT := bT.lt
      obtain ⟨m0, m1, m2⟩ := bM.c3
      have zM := bM.lt
      clear kTV kTW kMV kMW
      go_wp2
      go_ret
      exact ⟨rfl, v1.trans (Up.alloc _ _)⟩
    · obtain ⟨rfl, rfl, rfl⟩ := H1.out rfl
      have q5 := fun w => level_eq a b d x' y' z' w
      have q7 := fun w => level_eq a b d a b d w
      have h5 : decide (a = x' ∧ b = y' ∧ d = z') = wv := by have := H5.out; rwa [Bool.true_and] at this
      rw [h5] at q5
      rw [decide_eq_true ⟨rfl, rfl, rfl⟩] at q7
      have h4 : wu = true → vu = true := H4.out rfl
      replace h4 : Hid (wu = true → vu = true) := h4
      clear H1 H2 H3 H4 H5 h5
      cases wv
      · cases wu
        · clear h4
          go_wp2_with fail
          refine (kTV _).mono ?_
          rintro e w10 ⟨rfl, u9⟩
          clear c0 c1 c2 c3 c4 c5 c6 c7 c8 c9 c10 c11 c12 zA q0 q1 q2 zU p0 p1 p2 p3 p4 zP r0 r1 r2 zT
          replace bA := bA.up u9
          replace bU := bU.up u9
          replace bP := bP.up u9
          replace bT := bT.up u9
          replace v1 := v1.trans u9
          clear u9
          obtain ⟨c0, c1, c2, c3, c4, c5, c6, c7, c8, c9, c10, c11, c12⟩ := bA.c13
          have zA := bA.lt
          obtain ⟨q0, q1, q2⟩ := bU.c3
          have zU := bU.lt
          obtain ⟨p0, p1, p2, p3, p4⟩ := bP.c5
          have zP := bP.lt
          obtain ⟨r0, r1, r2⟩ := bT.c3
          have zT := bT.lt
          go_wp2_with fail
          refine (kTW _).mono ?_
          rintro e w11 ⟨rfl, u10⟩
          clear c0 c1 c2 c3 c4 c5 c6 c7 c8 c9 c10 c11 c12 zA q0 q1 q2 zU p0 p1 p2 p3 p4 zP r0 r1 r2 zT
          replace bA := bA.up u10
          replace bU := bU.up u10
          replace bP := bP.up u10
          replace bT := bT.up u10
          replace v1 := v1.trans u10
          clear u10
          obtain ⟨c0, c1, c2, c3, c4, c5, c6, c7, c8, c9, c10, c11, c12⟩ := bA.c13
          have zA := bA.lt
          obtain ⟨q0, q1, q2⟩ := bU.c3
          have zU := bU.lt
          obtain ⟨p0, p1, p2, p3, p4⟩ := bP.c5
          have zP := bP.lt
          obtain ⟨r0, r1, r2⟩ := bT.c3
          have zT := bT.lt
          go_wp2_with fail
          refine (kMV _).mono ?_
          rintro e w12 ⟨rfl, u11⟩
          clear c0 c1 c2 c3 c4 c5 c6 c7 c8 c9 c10 c11 c12 zA q0 q1 q2 zU p0 p1 p2 p3 p4 zP r0 r1 r2 zT
          replace bA := bA.up u11
          replace bU := bU.up u11
          replace bP := bP.up u11
          replace bT := bT.up u11
          replace v1 := v1.trans u11
          clear u11
          obtain ⟨c0, c1, c2, c3, c4, c5, c6, c7, c8, c9, c10, c11, c12⟩ := bA.c13
          have zA := bA.lt
          obtain ⟨q0, q1, q2⟩ := bU.c3
          have zU := bU.lt
          obtain ⟨p0, p1, p2, p3, p4⟩ := bP.c5
          have zP := bP.lt
          obtain ⟨r0, r1, r2⟩ := bT.c3
          have zT := bT.lt
          go_wp2_with fail
          refine (kMW _).mono ?_
          rintro e w13 ⟨rfl, u12⟩
          have bM : Box w13 w12.heap.size #[V a, V b, V d] := (Box.new _ _ _).up u12
          have g12 := (Up.alloc _ _).trans u12
          clear c0 c1 c2 c3 c4 c5 c6 c7 c8 c9 c10 c11 c12 zA q0 q1 q2 zU p0 p1 p2 p3 p4 zP r0 r1 r2 zT
          replace bA := bA.up g12
          replace bU := bU.up g12
          replace bP := bP.up g12
          replace bT := bT.up g12
          replace v1 := v1.trans g12
          clear u12 g12
          obtain ⟨c0, c1, c2, c3, c4, c5, c6, c7, c8, c9, c10, c11, c12⟩ := bA.c13
          have zA := bA.lt
          obtain ⟨q0, q1, q2⟩ := bU.c3
          have zU := bU.lt
          obtain ⟨p0, p1, p2, p3, p4⟩ := bP.c5
          have zP := bP.lt
          obtain ⟨r0, r1, r2⟩ := bT.c3
          have zT := bT.lt
          obtain ⟨m0, m1, m2⟩ := bM.c3
          have zM := bM.lt
          clear kTV kTW kMV kMW
          go_wp2
          go_ret
          exact ⟨rfl, v1.trans (Up.alloc _ _)⟩
        · obtain rfl := h4.out rfl
          clear h4
          go_wp2_with fail
          refine (kTV _).mono ?_
          rintro e w10 ⟨rfl, u9⟩
          clear c0 c1 c2 c3 c4 c5 c6 c7 c8 c9 c10 c11 c12 zA q0 q1 q2 zU p0 p1 p2 p3 p4 zP r0 r1 r2 zT
          replace bA := bA.up u9
          replace bU := bU.up u9
          replace bP := bP.up u9
          replace bT := bT.up u9
          replace v1 := v1.trans u9
          clear u9
          obtain ⟨c0, c1, c2, c3, c4, c5, c6, c7, c8, c9, c10, c11, c12⟩ := bA.c13
          have zA := bA.lt
          obtain ⟨q0, q1, q2⟩ := bU.c3
          have zU := bU.lt
          obtain ⟨p0, p1, p2, p3, p4⟩ := bP.c5
          have zP := bP.lt
          obtain ⟨r0, r1, r2⟩ := bT.c3
          have zT := bT.lt
          go_wp2_with fail
          refine (kTW _).mono ?_
          rintro e w11 ⟨rfl, u10⟩
          clear c0 c1 c2 c3 c4 c5 c6 c7 c8 c9 c10 c11 c12 zA q0 q1 q2 zU p0 p1 p2 p3 p4 zP r0 r1 r2 zT
          replace bA := bA.up u10
          replace bU := bU.up u10
          replace bP := bP.up u10
          replace bT := bT.up u10
          replace v1 := v1.trans u10
          clear u10
          obtain ⟨c0, c1, c2, c3, c4, c5, c6, c7, c8, c9, c10, c11, c12⟩ := bA.c13
          have zA := bA.lt
          obtain ⟨q0, q1, q2⟩ := bU.c3
          have zU := bU.lt
          obtain ⟨p0, p1, p2, p3, p4⟩ := bP.c5
          have zP := bP.lt
          obtain ⟨r0, r1, r2⟩ := bT.c3
          have zT := bT.lt
          go_wp2_with fail
          refine (kMV _).mono ?_
          rintro e w12 ⟨rfl, u11⟩
          clear c0 c1 c2 c3 c4 c5 c6 c7 c8 c9 c10 c11 c12 zA q0 q1 q2 zU p0 p1 p2 p3 p4 zP r0 r1 r2 zT
          replace bA := bA.up u11
          replace bU := bU.up u11
          replace bP := bP.up u11
          replace bT := bT.up u11
          replace v1 := v1.trans u11
          clear u11
          obtain ⟨c0, c1, c2, c3, c4, c5, c6, c7, c8, c9, c10, c11, c12⟩ := bA.c13
          have zA := bA.lt
          obtain ⟨q0, q1, q2⟩ := bU.c3
          have zU := bU.lt
          obtain ⟨p0, p1, p2, p3, p4⟩ := bP.c5
          have zP := bP.lt
          obtain ⟨r0, r1, r2⟩ := bT.c3
          have zT := bT.lt
          go_wp2_with fail
          refine (kMW _).mono ?_
          rintro e w13 ⟨rfl, u12⟩
          have bM : Box w13 w12.heap.size #[V a, V b, V d] := (Box.new _ _ _).up u12
          have g12 := (Up.alloc _ _).trans u12
          clear c0 c1 c2 c3 c4 c5 c6 c7 c8 c9 c10 c11 c12 zA q0 q1 q2 zU p0 p1 p2 p3 p4 zP r0 r1 r2 zT
          replace bA := bA.up g12
          replace bU := bU.up g12
          replace bP := bP.up g12
          replace bT := bT.up g12
          replace v1 := v1.trans g12
          clear u12 g12
          obtain ⟨c0, c1, c2, c3, c4, c5, c6, c7, c8, c9, c10, c11, c12⟩ := bA.c13
          have zA := bA.lt
          obtain ⟨q0, q1, q2⟩ := bU.c3
          have zU := bU.lt
          obtain ⟨p0, p1, p2, p3, p4⟩ := bP.c5
          have zP := bP.lt
          obtain ⟨r0, r1, r2⟩ := bT.c3
          have zT := bT.lt
          obtain ⟨m0, m1, m2⟩ := bM.c3
          have zM := bM.lt
          clear kTV kTW kMV kMW
          go_wp2
          go_ret
          exact ⟨rfl, v1.trans (Up.alloc _ _)⟩
      · cases wu
        · clear h4
          go_wp2_with fail
          refine (kTV _).mono ?_
          rintro e w10 ⟨rfl, u9⟩
          clear c0 c1 c2 c3 c4 c5 c6 c7 c8 c9 c10 c11 c12 zA q0 q1 q2 zU p0 p1 p2 p3 p4 zP r0 r1 r2 zT
          replace bA := bA.up u9
          replace bU := bU.up u9
          replace bP := bP.up u9
          replace bT := bT.up u9
          replace v1 := v1.trans u9
          clear u9
          obtain ⟨c0, c1, c2, c3, c4, c5, c6, c7, c8, c9, c10, c11, c12⟩ := bA.c13
          have zA := bA.lt
          obtain ⟨q0, q1, q2⟩ := bU.c3
          have zU := bU.lt
          obtain ⟨p0, p1, p2, p3, p4⟩ := bP.c5
          have zP := bP.lt
          obtain ⟨r0, r1, r2⟩ := bT.c3
          have zT := bT.lt
          go_wp2_with fail
          refine (kTW _).mono ?_
          rintro e w11 ⟨rfl, u10⟩
          clear c0 c1 c2 c3 c4 c5 c6 c7 c8 c9 c10 c11 c12 zA q0 q1 q2 zU p0 p1 p2 p3 p4 zP r0 r1 r2 zT
          replace bA := bA.up u10
          replace bU := bU.up u10
          replace bP := bP.up u10
          replace bT := bT.up u10
          replace v1 := v1.trans u10
          clear u10
          obtain ⟨c0, c1, c2, c3, c4, c5, c6, c7, c8, c9, c10, c11, c12⟩ := bA.c13
          have zA := bA.lt
          obtain ⟨q0, q1, q2⟩ := bU.c3
          have zU := bU.lt
          obtain ⟨p0, p1, p2, p3, p4⟩ := bP.c5
          have zP := bP.lt
          obtain ⟨r0, r1, r2⟩ := bT.c3
          have zT := bT.lt
          go_wp2_with fail
          refine (kMV _).mono ?_
          rintro e w12 ⟨rfl, u11⟩
          clear c0 c1 c2 c3 c4 c5 c6 c7 c8 c9 c10 c11 c12 zA q0 q1 q2 zU p0 p1 p2 p3 p4 zP r0 r1 r2 zT
          replace bA := bA.up u11
          replace bU := bU.up u11
          replace bP := bP.up u11
          replace bT := bT.up u11
          replace v1 := v1.trans u11
          clear u11
          obtain ⟨c0, c1, c2, c3, c4, c5, c6, c7, c8, c9, c10, c11, c12⟩ := bA.c13
          have zA := bA.lt
          obtain ⟨q0, q1, q2⟩ := bU.c3
          have zU := bU.lt
          obtain ⟨p0, p1, p2, p3, p4⟩ := bP.c5
          have zP := bP.lt
          obtain ⟨r0, r1, r2⟩ := bT.c3
          have zT := bT.lt
          go_wp2_with fail
          refine (kMW _).mono ?_
          rintro e w13 ⟨rfl, u12⟩
          have bM : Box w13 w12.heap.size #[V a, V b, V d] := (Box.new _ _ _).up u12
          have g12 := (Up.alloc _ _).trans u12
          clear c0 c1 c2 c3 c4 c5 c6 c7 c8 c9 c10 c11 c12 zA q0 q1 q2 zU p0 p1 p2 p3 p4 zP r0 r1 r2 zT
          replace bA := bA.up g12
          replace bU := bU.up g12
          replace bP := bP.up g12
          replace bT := bT.up g12
          replace v1 := v1.trans g12
          clear u12 g12
          obtain ⟨c0, c1, c2, c3, c4, c5, c6, c7, c8, c9, c10, c11, c12⟩ := bA.c13
          have zA := bA.lt
          obtain ⟨q0, q1, q2⟩ := bU.c3
          have zU := bU.lt
          obtain ⟨p0, p1, p2, p3, p4⟩ := bP.c5
          have zP := bP.lt
          obtain ⟨r0, r1, r2⟩ := bT.c3
          have zT := bT.lt
          obtain ⟨m0, m1, m2⟩ := bM.c3
          have zM := bM.lt
          clear kTV kTW kMV kMW
          go_wp2
          go_ret
          exact ⟨rfl, v1.trans (Up.alloc _ _)⟩
        · obtain rfl := h4.out rfl
          clear h4
          go_wp2_with fail
          refine (kTV _).mono ?_
          rintro e w10 ⟨rfl, u9⟩
          clear c0 c1 c2 c3 c4 c5 c6 c7 c8 c9 c10 c11 c12 zA q0 q1 q2 zU p0 p1 p2 p3 p4 zP r0 r1 r2 zT
          replace bA := bA.up u9
          replace bU := bU.up u9
          replace bP := bP.up u9
          replace bT := bT.up u9
          replace v1 := v1.trans u9
          clear u9
          obtain ⟨c0, c1, c2, c3, c4, c5, c6, c7, c8, c9, c10, c11, c12⟩ := bA.c13
          have zA := bA.lt
          obtain ⟨q0, q1, q2⟩ := bU.c3
          have zU := bU.lt
          obtain ⟨p0, p1, p2, p3, p4⟩ := bP.c5
          have zP := bP.lt
          obtain ⟨r0, r1, r2⟩ := bT.c3
          have zT := bT.lt
          go_wp2_with fail
          refine (kTW _).mono ?_
          rintro e w11 ⟨rfl, u10⟩
          clear c0 c1 c2 c3 c4 c5 c6 c7 c8 c9 c10 c11 c12 zA q0 q1 q2 zU p0 p1 p2 p3 p4 zP r0 r1 r2 zT
          replace bA := bA.up u10
          replace bU := bU.up u10
          replace bP := bP.up u10
          replace bT := bT.up u10
          replace v1 := v1.trans u10
          clear u10
          obtain ⟨c0, c1, c2, c3, c4, c5, c6, c7, c8, c9, c10, c11, c12⟩ := bA.c13
          have zA := bA.lt
          obtain ⟨q0, q1, q2⟩ := bU.c3
          have zU := bU.lt
          obtain ⟨p0, p1, p2, p3, p4⟩ := bP.c5
          have zP := bP.lt
          obtain ⟨r0, r1, r2⟩ := bT.c3
          have zT := bT.lt
          go_wp2_with fail
          refine (kMV _).mono ?_
          rintro e w12 ⟨rfl, u11⟩
          clear c0 c1 c2 c3 c4 c5 c6 c7 c8 c9 c10 c11 c12 zA q0 q1 q2 zU p0 p1 p2 p3 p4 zP r0 r1 r2 zT
          replace bA := bA.up u11
          replace bU := bU.up u11
          replace bP := bP.up u11
          replace bT := bT.up u11
          replace v1 := v1.trans u11
          clear u11
          obtain ⟨c0, c1, c2, c3, c4, c5, c6, c7, c8, c9, c10, c11, c12⟩ := bA.c13
          have zA := bA.lt
          obtain ⟨q0, q1, q2⟩ := bU.c3
          have zU := bU.lt
          obtain ⟨p0, p1, p2, p3, p4⟩ := bP.c5
          have zP := bP.lt
          obtain ⟨r0, r1, r2⟩ := bT.c3
          have zT := bT.lt
          go_wp2_with fail
          refine (kMW _).mono ?_
          rintro e w13 ⟨rfl, u12⟩
          have bM : Box w13 w12.heap.size #[V a, V b, V d] := (Box.new _ _ _).up u12
          have g12 := (Up.alloc _ _).trans u12
          clear c0 c1 c2 c3 c4 c5 c6 c7 c8 c9 c10 c11 c12 zA q0 q1 q2 zU p0 p1 p2 p3 p4 zP r0 r1 r2 zT
          replace bA := bA.up g12
          replace bU := bU.up g12
          replace bP := bP.up g12
          replace bT := bT.up g12
          replace v1 := v1.trans g12
          clear u12 g12
          obtain ⟨c0, c1, c2, c3, c4, c5, c6, c7, c8, c9, c10, c11, c12⟩ := bA.c13
          have zA := bA.lt
          obtain ⟨q0, q1, q2⟩ := bU.c3
          have zU := bU.lt
          obtain ⟨p0, p1, p2, p3, p4⟩ := bP.c5
          have zP := bP.lt
          obtain ⟨r0, r1, r2⟩ := bT.c3
          have zT := bT.lt
          obtain ⟨m0, m1, m2⟩ := bM.c3
          have zM := bM.lt
          clear kTV kTW kMV kMW
          go_wp2
          go_ret
          exact ⟨rfl, v1.trans (Up.alloc _ _)⟩

theorem PolicyOrder_any (k : Int) (g s l p t i c t' i' c' now n t2 i2 c2 : Nat) (w : World) :
    Calls Try.prog 6 #[Ak k g s l p t i c t' i' c' now n, Lv t2 i2 c2] w fun e w' => e = .returned (.bool true) ∧ Up w w' := by
  have key : ∀ (P : Pol) (v u x : Lev), (P.Is ∨ ¬ P.Is) → ∀ w, Calls Try.prog 6 #[Ak P.k P.g P.s P.l P.p v.t v.i v.c u.t u.i u.c now n, LL x] w fun e w' => e = .returned (.bool true) ∧ Up w w' := by
    intro P v u x hP w
    have hcv : pCov P v v = pValid P := by
      rcases hP with h | h
      · rw [cov_refl h, show pValid P = true from decide_eq_true h]
      · rw [cov_not h, show pValid P = false from decide_eq_false h]
    have kVV := covers_call P v v
    rw [hcv] at kVV
    have kMV := max_call P v v
    have kMW := max_call P u u
    rw [max_self] at kMV kMW
    have hv : pValid P = true → P.Is := fun h => of_decide_eq_true h
    refine order_walk P.k P.g P.s P.l P.p v.t v.i v.c u.t u.i u.c now n x.t x.i x.c (pMax P v u).t (pMax P v u).i (pMax P v u).c _ _ _ _ _ _ _ _ _ _ _ (valid_call P) kVV (covers_call P v u) (covers_call P u v) (covers_call P u x) (covers_call P v x) (max_call P v u)
      (fun h w => ?_) (fun h w => ?_) kMV kMW (fun h => ?_) (fun h => ?_) (fun h => ?_) (fun h h1 => ?_) (fun h1 h2 => ?_) (fun h => ?_) w
    · have k := covers_call P (pMax P v u) v w
      rw [(cov_max (hv h) v u).1] at k
      exact k
    · have k := covers_call P (pMax P v u) u w
      rw [(cov_max (hv h) v u).2] at k
      exact k
    · exact cov_not (fun k => by rw [show pValid P = true from decide_eq_true k] at h; cases h) _ _
    · have e : pMax P v u = pForm P v := if_pos h
      rw [e]; exact ⟨rfl, rfl, rfl⟩
    · have e : pMax P v u = pForm P u := if_neg (by rw [h]; decide)
      rw [e]; exact ⟨rfl, rfl, rfl⟩
    · exact (cov_total (hv h) v u).resolve_left (by rw [h1]; decide)
    · by_cases hi : P.Is
      · exact cov_trans hi h1 h2
      · rw [cov_not hi] at h1; cases h1
    · have e := form_eq (hv h) v u
      rw [Bool.eq_iff_iff, decide_eq_true_iff, Bool.and_eq_true, ← e]
      obtain ⟨a1, a2, a3⟩ := pForm P v
      obtain ⟨b1, b2, b3⟩ := pForm P u
      simp
  exact key ⟨k, g, s, l, p⟩ ⟨t, i, c⟩ ⟨t', i', c'⟩ ⟨t2, i2, c2⟩ (Classical.em _) w
end Go.Proofs.Ythpcjhihifhmgaa

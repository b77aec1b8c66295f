/- The law PolicyRises returns true for every input, and changes nothing that was there. -/
import Derived.Test.YthpcjhihifhmgaaPlFaceLaw
import Derived.Test.YthpcjhihifhmgaaPlNum2
set_option linter.unusedVariables false
namespace Go.Proofs.Ythpcjhihifhmgaa
open Go Go.RowKit

set_option maxRecDepth 20000 in
set_option maxHeartbeats 6400000 in
theorem rises_walk (k : Int) (g s l p t i c t' i' c' now n later x y z R L x3 y3 z3 R3 x4 y4 z4 R4 : Nat) (vd ok th er : Bool)
    (kv : ∀ w, Calls Try.prog 12 #[Pv k g s l p] w fun e w' => e = .returned (.bool vd) ∧ Up w w')
    (kA : ∀ w, Calls Try.prog 10 #[Pv k g s l p, Lv t i c, V now, V n] w fun e w' => e = .returned (.tuple #[Lv x y z, .bool ok, V R]) ∧ Up w w')
    (kL : ∀ w, Calls Try.prog 11 #[Pv k g s l p, Lv t i c, V now] w fun e w' => e = .returned (V L) ∧ Up w w')
    (kC : ∀ w, Calls Try.prog 21 #[Pv k g s l p, Lv x y z, Lv t i c] w fun e w' => e = .returned (.bool vd) ∧ Up w w')
    (kD : ∀ w, Calls Try.prog 21 #[Pv k g s l p, Lv t i c, Lv x y z] w fun e w' => e = .returned (.bool (vd && !ok)) ∧ Up w w')
    (kT : ∀ w, Calls Try.prog 10 #[Pv k g s l p, Lv t i c, V R, V n] w fun e w' => e = .returned (.tuple #[Lv x3 y3 z3, .bool th, V R3]) ∧ Up w w')
    (kE : ∀ w, Calls Try.prog 10 #[Pv k g s l p, Lv t i c, V later, V n] w fun e w' => e = .returned (.tuple #[Lv x4 y4 z4, .bool er, V R4]) ∧ Up w w')
    (hinv : Hid (vd = false → ok = false)) (hL : Hid (vd = true → ok = decide (1 ≤ n ∧ n ≤ L))) (hR0 : Hid (ok = true → R = 0)) (hR : Hid (vd = true → ok = false → now ≤ R))
    (hth : Hid (vd = true → ok = false → th = true ∨ R = 18446744073709551615)) (her : Hid (vd = true → ok = false → er = false ∨ later < now ∨ R ≤ later)) (w : World) :
    Calls Try.prog 7 #[Ak k g s l p t i c t' i' c' now n, V later] w fun e w' => e = .returned (.bool true) ∧ Up w w' := by
  go_enter Try.func7, Try.ntmps7
  have v1 := Up.refl w
  go_wp2_with fail
  refine (awake_any _).mono ?_
  rintro e w2 ⟨rfl, u1⟩
  have bA : Box w2 w.heap.size #[.int .i64 k, V g, V s, V l, V p, V t, V i, V c, V t', V i', V c', V now, V n] := (Box.new _ _ _).up u1
  have g1 := (Up.alloc _ _).trans u1
  replace v1 := v1.trans g1
  clear u1 g1
  obtain ⟨c0, c1, c2, c3, c4, c5, c6, c7, c8, c9, c10, c11, c12⟩ := bA.c13
  have zA := bA.lt
  generalize w.heap.size = B at *
  go_wp2_with fail
  refine (kv _).mono ?_
  rintro e w3 ⟨rfl, u2⟩
  have bP : Box w3 w2.heap.size #[.int .i64 k, V g, V s, V l, V p] := (Box.new _ _ _).up u2
  have g2 := (Up.alloc _ _).trans u2
  clear c0 c1 c2 c3 c4 c5 c6 c7 c8 c9 c10 c11 c12 zA
  replace bA := bA.up g2
  replace v1 := v1.trans g2
  clear u2 g2
  obtain ⟨c0, c1, c2, c3, c4, c5, c6, c7, c8, c9, c10, c11, c12⟩ := bA.c13
  have zA := bA.lt
  obtain ⟨p0, p1, p2, p3, p4⟩ := bP.c5
  have zP := bP.lt
  generalize w2.heap.size = D at *
  cases vd
  · obtain rfl := hinv.out rfl
    clear kL kC kD kT kE hinv hL hR0 hR hth her
    go_wp2_with fail
    refine (kA _).mono ?_
    rintro e w4 ⟨rfl, u3⟩
    clear c0 c1 c2 c3 c4 c5 c6 c7 c8 c9 c10 c11 c12 zA p0 p1 p2 p3 p4 zP
    replace bA := bA.up u3
    replace bP := bP.up u3
    replace v1 := v1.trans u3
    clear u3
    obtain ⟨c0, c1, c2, c3, c4, c5, c6, c7, c8, c9, c10, c11, c12⟩ := bA.c13
    have zA := bA.lt
    obtain ⟨p0, p1, p2, p3, p4⟩ := bP.c5
    have zP := bP.lt
    go_wp2
    go_ret
    exact ⟨rfl, v1.trans (Up.alloc _ _)⟩
  · replace hL := hL.out rfl
    replace hR : Hid (ok = false → now ≤ R) := hR.out rfl
    replace hth : Hid (ok = false → th = true ∨ R = 18446744073709551615) := hth.out rfl
    replace her : Hid (ok = false → er = false ∨ later < now ∨ R ≤ later) := her.out rfl
    replace hL : Hid (ok = decide (1 ≤ n ∧ n ≤ L)) := hL
    clear hinv kv
    go_wp2_with fail
    refine (kA _).mono ?_
    rintro e w4 ⟨rfl, u3⟩
    clear c0 c1 c2 c3 c4 c5 c6 c7 c8 c9 c10 c11 c12 zA p0 p1 p2 p3 p4 zP
    replace bA := bA.up u3
    replace bP := bP.up u3
    replace v1 := v1.trans u3
    clear u3
    obtain ⟨c0, c1, c2, c3, c4, c5, c6, c7, c8, c9, c10, c11, c12⟩ := bA.c13
    have zA := bA.lt
    obtain ⟨p0, p1, p2, p3, p4⟩ := bP.c5
    have zP := bP.lt
    go_wp2_with fail
    refine (kL _).mono ?_
    rintro e w5 ⟨rfl, u4⟩
    have bW : Box w5 w4.heap.size #[V x, V y, V z] := (Box.new _ _ _).up u4
    have g4 := (Up.alloc _ _).trans u4
    clear c0 c1 c2 c3 c4 c5 c6 c7 c8 c9 c10 c11 c12 zA p0 p1 p2 p3 p4 zP
    replace bA := bA.up g4
    replace bP := bP.up g4
    replace v1 := v1.trans g4
    clear u4 g4
    obtain ⟨c0, c1, c2, c3, c4, c5, c6, c7, c8, c9, c10, c11, c12⟩ := bA.c13
    have zA := bA.lt
    obtain ⟨p0, p1, p2, p3, p4⟩ := bP.c5
    have zP := bP.lt
    obtain ⟨m0, m1, m2⟩ := bW.c3
    have zW := bW.lt
    generalize w4.heap.size = E at *
    clear kA kL
    cases ok
    · have hl := of_decide_eq_false hL.out.symm
      have hr := hR.out rfl
      have c : ¬ (R : Int) < (now : Int) := by omega
      replace hth : Hid (th = true ∨ R = 18446744073709551615) := hth.out rfl
      replace her : Hid (er = false ∨ later < now ∨ R ≤ later) := her.out rfl
      have hn : n = 0 ∨ ((1 : Int) ≤ (n : Int) ∧ ¬ (n : Int) ≤ (L : Int)) := by omega
      clear hl hr hL hR0 hR
      rcases hn with rfl | ⟨h1, h2⟩
      · go_wp2_with fail
        refine (kC _).mono ?_
        rintro e w6 ⟨rfl, u5⟩
        clear c0 c1 c2 c3 c4 c5 c6 c7 c8 c9 c10 c11 c12 zA p0 p1 p2 p3 p4 zP m0 m1 m2 zW
        replace bA := bA.up u5
        replace bP := bP.up u5
        replace bW := bW.up u5
        replace v1 := v1.trans u5
        clear u5
        obtain ⟨c0, c1, c2, c3, c4, c5, c6, c7, c8, c9, c10, c11, c12⟩ := bA.c13
        have zA := bA.lt
        obtain ⟨p0, p1, p2, p3, p4⟩ := bP.c5
        have zP := bP.lt
        obtain ⟨m0, m1, m2⟩ := bW.c3
        have zW := bW.lt
        go_wp2_with fail
        refine (kD _).mono ?_
        rintro e w7 ⟨rfl, u6⟩
        clear c0 c1 c2 c3 c4 c5 c6 c7 c8 c9 c10 c11 c12 zA p0 p1 p2 p3 p4 zP m0 m1 m2 zW
        replace bA := bA.up u6
        replace bP := bP.up u6
        replace bW := bW.up u6
        replace v1 := v1.trans u6
        clear u6
        obtain ⟨c0, c1, c2, c3, c4, c5, c6, c7, c8, c9, c10, c11, c12⟩ := bA.c13
        have zA := bA.lt
        obtain ⟨p0, p1, p2, p3, p4⟩ := bP.c5
        have zP := bP.lt
        obtain ⟨m0, m1, m2⟩ := bW.c3
        have zW := bW.lt
        go_wp2_with fail
        refine (kT _).mono ?_
        rintro e w8 ⟨rfl, u7⟩
        clear c0 c1 c2 c3 c4 c5 c6 c7 c8 c9 c10 c11 c12 zA p0 p1 p2 p3 p4 zP m0 m1 m2 zW
        replace bA := bA.up u7
        replace bP := bP.up u7
        replace bW := bW.up u7
        replace v1 := v1.trans u7
        clear u7
        obtain ⟨c0, c1, c2, c3, c4, c5, c6, c7, c8, c9, c10, c11, c12⟩ := bA.c13
        have zA := bA.lt
        obtain ⟨p0, p1, p2, p3, p4⟩ := bP.c5
        have zP := bP.lt
        obtain ⟨m0, m1, m2⟩ := bW.c3
        have zW := bW.lt
        clear kC kD kT
        have hth2 : th = true ∨ th = false ∧ ((R : Int) == 18446744073709551615) = true := by
          cases th
          · rcases hth.out with h | h
            · cases h
            · exact Or.inr ⟨rfl, by simp; omega⟩
          · exact Or.inl rfl
        clear hth
        rcases hth2 with rfl | ⟨rfl, hnv⟩
        · go_wp2_with fail
          refine (kE _).mono ?_
          rintro e w9 ⟨rfl, u8⟩
          have g8 := (Up.alloc _ _).trans u8
          clear c0 c1 c2 c3 c4 c5 c6 c7 c8 c9 c10 c11 c12 zA p0 p1 p2 p3 p4 zP m0 m1 m2 zW
          replace bA := bA.up g8
          replace bP := bP.up g8
          replace bW := bW.up g8
          replace v1 := v1.trans g8
          clear u8 g8
          obtain ⟨c0, c1, c2, c3, c4, c5, c6, c7, c8, c9, c10, c11, c12⟩ := bA.c13
          have zA := bA.lt
          obtain ⟨p0, p1, p2, p3, p4⟩ := bP.c5
          have zP := bP.lt
          obtain ⟨m0, m1, m2⟩ := bW.c3
          have zW := bW.lt
          clear kE
          have her2 : er = false ∨ er = true ∧ (later : Int) < (now : Int) ∨ er = true ∧ ¬ (later : Int) < (now : Int) ∧ (R : Int) ≤ (later : Int) := by
            cases er
            · exact Or.inl rfl
            · rcases her.out with h | h | h
              · cases h
              · exact Or.inr (Or.inl ⟨rfl, by omega⟩)
              · by_cases h3 : later < now
                · exact Or.inr (Or.inl ⟨rfl, by omega⟩)
                · exact Or.inr (Or.inr ⟨rfl, by omega, by omega⟩)
          clear her
          rcases her2 with rfl | ⟨rfl, h3⟩ | ⟨rfl, h3, h4⟩
          all_goals
            go_wp2
            go_ret
            exact ⟨rfl, v1.trans (Up.alloc _ _)⟩
        · go_wp2_with fail
          refine (kE _).mono ?_
          rintro e w9 ⟨rfl, u8⟩
          have g8 := (Up.alloc _ _).trans u8
          clear c0 c1 c2 c3 c4 c5 c6 c7 c8 c9 c10 c11 c12 zA p0 p1 p2 p3 p4 zP m0 m1 m2 zW
          replace bA := bA.up g8
          replace bP := bP.up g8
          replace bW := bW.up g8
          replace v1 := v1.trans g8
          clear u8 g8
          obtain ⟨c0, c1, c2, c3, c4, c5, c6, c7, c8, c9, c10, c11, c12⟩ := bA.c13
          have zA := bA.lt
          obtain ⟨p0, p1, p2, p3, p4⟩ := bP.c5
          have zP := bP.lt
          obtain ⟨m0, m1, m2⟩ := bW.c3
          have zW := bW.lt
          clear kE
          have her2 : er = false ∨ er = true ∧ (later : Int) < (now : Int) ∨ er = true ∧ ¬ (later : Int) < (now : Int) ∧ (R : Int) ≤ (later : Int) := by
            cases er
            · exact Or.inl rfl
            · rcases her.out with h | h | h
              · cases h
              · exact Or.inr (Or.inl ⟨rfl, by omega⟩)
              · by_cases h3 : later < now
                · exact Or.inr (Or.inl ⟨rfl, by omega⟩)
                · exact Or.inr (Or.inr ⟨rfl, by omega, by omega⟩)
          clear her
          rcases her2 with rfl | ⟨rfl, h3⟩ | ⟨rfl, h3, h4⟩
          all_goals
            go_wp2
            go_ret
            exact ⟨rfl, v1.trans (Up.alloc _ _)⟩
      · go_wp2_with fail
        refine (kC _).mono ?_
        rintro e w6 ⟨rfl, u5⟩
        clear c0 c1 c2 c3 c4 c5 c6 c7 c8 c9 c10 c11 c12 zA p0 p1 p2 p3 p4 zP m0 m1 m2 zW
        replace bA := bA.up u5
        replace bP := bP.up u5
        replace bW := bW.up u5
        replace v1 := v1.trans u5
        clear u5
        obtain ⟨c0, c1, c2, c3, c4, c5, c6, c7, c8, c9, c10, c11, c12⟩ := bA.c13
        have zA := bA.lt
        obtain ⟨p0, p1, p2, p3, p4⟩ := bP.c5
        have zP := bP.lt
        obtain ⟨m0, m1, m2⟩ := bW.c3
        have zW := bW.lt
        go_wp2_with fail
        refine (kD _).mono ?_
        rintro e w7 ⟨rfl, u6⟩
        clear c0 c1 c2 c3 c4 c5 c6 c7 c8 c9 c10 c11 c12 zA p0 p1 p2 p3 p4 zP m0 m1 m2 zW
        replace bA := bA.up u6
        replace bP := bP.up u6
        replace bW := bW.up u6
        replace v1 := v1.trans u6
        clear u6
        obtain ⟨c0, c1, c2, c3, c4, c5, c6, c7, c8, c9, c10, c11, c12⟩ := bA.c13
        have zA := bA.lt
        obtain ⟨p0, p1, p2, p3, p4⟩ := bP.c5
        have zP := bP.lt
        obtain ⟨m0, m1, m2⟩ := bW.c3
        have zW := bW.lt
        go_wp2_with fail
        refine (kT _).mono ?_
        rintro e w8 ⟨rfl, u7⟩
        clear c0 c1 c2 c3 c4 c5 c6 c7 c8 c9 c10 c11 c12 zA p0 p1 p2 p3 p4 zP m0 m1 m2 zW
        replace bA := bA.up u7
        replace bP := bP.up u7
        replace bW := bW.up u7
        replace v1 := v1.trans u7
        clear u7
        obtain ⟨c0, c1, c2, c3, c4, c5, c6, c7, c8, c9, c10, c11, c12⟩ := bA.c13
        have zA := bA.lt
        obtain ⟨p0, p1, p2, p3, p4⟩ := bP.c5
        have zP := bP.lt
        obtain ⟨m0, m1, m2⟩ := bW.c3
        have zW := bW.lt
        clear kC kD kT
        have hth2 : th = true ∨ th = false ∧ ((R : Int) == 18446744073709551615) = true := by
          cases th
          · rcases hth.out with h | h
            · cases h
            · exact Or.inr ⟨rfl, by simp; omega⟩
          · exact Or.inl rfl
        clear hth
        rcases hth2 with rfl | ⟨rfl, hnv⟩
        · go_wp2_with fail
          refine (kE _).mono ?_
          rintro e w9 ⟨rfl, u8⟩
          have g8 := (Up.alloc _ _).trans u8
          clear c0 c1 c2 c3 c4 c5 c6 c7 c8 c9 c10 c11 c12 zA p0 p1 p2 p3 p4 zP m0 m1 m2 zW
          replace bA := bA.up g8
          replace bP := bP.up g8
          replace bW := bW.up g8
          replace v1 := v1.trans g8
          clear u8 g8
          obtain ⟨c0, c1, c2, c3, c4, c5, c6, c7, c8, c9, c10, c11, c12⟩ := bA.c13
          have zA := bA.lt
          obtain ⟨p0, p1, p2, p3, p4⟩ := bP.c5
          have zP := bP.lt
          obtain ⟨m0, m1, m2⟩ := bW.c3
          have zW := bW.lt
          clear kE
          have her2 : er = false ∨ er = true ∧ (later : Int) < (now : Int) ∨ er = true ∧ ¬ (later : Int) < (now : Int) ∧ (R : Int) ≤ (later : Int) := by
            cases er
            · exact Or.inl rfl
            · rcases her.out with h | h | h
              · cases h
              · exact Or.inr (Or.inl ⟨rfl, by omega⟩)
              · by_cases h3 : later < now
                · exact Or.inr (Or.inl ⟨rfl, by omega⟩)
                · exact Or.inr (Or.inr ⟨rfl, by omega, by omega⟩)
          clear her
          rcases her2 with rfl | ⟨rfl, h3⟩ | ⟨rfl, h3, h4⟩
          all_goals
            go_wp2
            go_ret
            exact ⟨rfl, v1.trans (Up.alloc _ _)⟩
        · go_wp2_with fail
          refine (kE _).mono ?_
          rintro e w9 ⟨rfl, u8⟩
          have g8 := (Up.alloc _ _).trans u8
          clear c0 c1 c2 c3 c4 c5 c6 c7 c8 c9 c10 c11 c12 zA p0 p1 p2 p3 p4 zP m0 m1 m2 zW
          replace bA := bA.up g8
          replace bP := bP.up g8
          replace bW := bW.up g8
          replace v1 := v1.trans g8
          clear u8 g8
          obtain ⟨c0, c1, c2, c3, c4, c5, c6, c7, c8, c9, c10, c11, c12⟩ := bA.c13
          have zA := bA.lt
          obtain ⟨p0, p1, p2, p3, p4⟩ := bP.c5
          have zP := bP.lt
          obtain ⟨m0, m1, m2⟩ := bW.c3
          have zW := bW.lt
          clear kE
          have her2 : er = false ∨ er = true ∧ (later : Int) < (now : Int) ∨ er = true ∧ ¬ (later : Int) < (now : Int) ∧ (R : Int) ≤ (later : Int) := by
            cases er
            · exact Or.inl rfl
            · rcases her.out with h | h | h
              · cases h
              · exact Or.inr (Or.inl ⟨rfl, by omega⟩)
              · by_cases h3 : later < now
                · exact Or.inr (Or.inl ⟨rfl, by omega⟩)
                · exact Or.inr (Or.inr ⟨rfl, by omega, by omega⟩)
          clear her
          rcases her2 with rfl | ⟨rfl, h3⟩ | ⟨rfl, h3, h4⟩
          all_goals
            go_wp2
            go_ret
            exact ⟨rfl, v1.trans (Up.alloc _ _)⟩
    · obtain rfl := hR0.out rfl
      have hl := of_decide_eq_true hL.out.symm
      have h1 : (1 : Int) ≤ (n : Int) := by omega
      have h2 : (n : Int) ≤ (L : Int) := by omega
      clear hl hL hR0 hR hth her kT kE
      go_wp2_with fail
      refine (kC _).mono ?_
      rintro e w6 ⟨rfl, u5⟩
      clear c0 c1 c2 c3 c4 c5 c6 c7 c8 c9 c10 c11 c12 zA p0 p1 p2 p3 p4 zP m0 m1 m2 zW
      replace bA := bA.up u5
      replace bP := bP.up u5
      replace bW := bW.up u5
      replace v1 := v1.trans u5
      clear u5
      obtain ⟨c0, c1, c2, c3, c4, c5, c6, c7, c8, c9, c10, c11, c12⟩ := bA.c13
      have zA := bA.lt
      obtain ⟨p0, p1, p2, p3, p4⟩ := bP.c5
      have zP := bP.lt
      obtain ⟨m0, m1, m2⟩ := bW.c3
      have zW := bW.lt
      go_wp2_with fail
      refine (kD _).mono ?_
      rintro e w7 ⟨rfl, u6⟩
      clear c0 c1 c2 c3 c4 c5 c6 c7 c8 c9 c10 c11 c12 zA p0 p1 p2 p3 p4 zP m0 m1 m2 zW
      replace bA := bA.up u6
      replace bP := bP.up u6
      replace bW := bW.up u6
      replace v1 := v1.trans u6
      clear u6
      obtain ⟨c0, c1, c2, c3, c4, c5, c6, c7, c8, c9, c10, c11, c12⟩ := bA.c13
      have zA := bA.lt
      obtain ⟨p0, p1, p2, p3, p4⟩ := bP.c5
      have zP := bP.lt
      obtain ⟨m0, m1, m2⟩ := bW.c3
      have zW := bW.lt
      go_wp2
      go_ret
      exact ⟨rfl, v1⟩

theorem retry_lt6 (P : Pol) (hP : P.Ok) (v : Lev) (hv : v.Ok) (now n : Nat) (hw : N64 now) : N64 (pRetry P v now n) := by
  unfold pRetry
  split
  · unfold N64; omega
  · unfold pRule
    split
    · exact retry_lt _ _ _ _ _ hv.t hw
    · split
      · exact wretry_lt _ _ _ _ _ _ hw hv.i
      · unfold N64; omega

theorem PolicyRises_any (k : Int) (g s l p t i c t' i' c' now n later : Nat) (hg : N64 g) (hs : N64 s) (hl : N64 l) (hp : N64 p) (ht : N64 t) (hi : N64 i) (hc : N64 c) (hw : N64 now) (hn : N64 n) (hl' : N64 later) (w : World) :
    Calls Try.prog 7 #[Ak k g s l p t i c t' i' c' now n, V later] w fun e w' => e = .returned (.bool true) ∧ Up w w' := by
  have key : ∀ (P : Pol) (v : Lev), P.Ok → v.Ok → ∀ w, Calls Try.prog 7 #[Ak P.k P.g P.s P.l P.p v.t v.i v.c t' i' c' now n, V later] w fun e w' => e = .returned (.bool true) ∧ Up w w' := by
    intro P v hP hv w
    have hvd : pValid P = true → P.Is := fun h => of_decide_eq_true h
    have hno : ¬ P.Is → pValid P = false := fun h => decide_eq_false h
    have hyes : P.Is → pValid P = true := fun h => decide_eq_true h
    have e1 : pCov P (pNew P v now n) v = pValid P := by
      by_cases h : P.Is
      · rw [hyes h]
        cases ho : pOk P v now n
        · rw [new_not ho, cov_form h]; exact cov_refl h v
        · exact (new_above h ho).1
      · rw [hno h, cov_not h]
    have e2 : pCov P v (pNew P v now n) = (pValid P && !pOk P v now n) := by
      by_cases h : P.Is
      · rw [hyes h]
        cases ho : pOk P v now n
        · rw [new_not ho, cov_form' h]; exact cov_refl h v
        · exact (new_above h ho).2
      · rw [hno h, cov_not h]; rfl
    have kC := covers_call P (pNew P v now n) v
    have kD := covers_call P v (pNew P v now n)
    rw [e1] at kC
    rw [e2] at kD
    refine rises_walk P.k P.g P.s P.l P.p v.t v.i v.c t' i' c' now n later _ _ _ _ _ _ _ _ _ _ _ _ _ _ _ _ _ (valid_call P) (admit_call P v now n hP hv hw hn) (left_call P v now hP hv hw) kC kD
      (admit_call P v (pRetry P v now n) n hP hv (retry_lt6 P hP v hv now n hw) hn) (admit_call P v later n hP hv hl' hn) (fun h => ?_) (fun h => ?_) (fun h => if_pos h) (fun h h1 => ?_) (fun h h1 => ?_) (fun h h1 => ?_) w
    · have : ¬ P.Is := fun k => by rw [hyes k] at h; cases h
      unfold pOk
      rw [if_neg (fun k => this (Or.inl k)), if_neg (fun k => this (Or.inr k))]
    · exact ok_left (hvd h) v now n
    · exact (retry_first (hvd h) (by unfold N64 at hw; omega) (by have := hv.i; unfold N64 at this; omega) h1).1
    · by_cases e : pRetry P v now n = 18446744073709551615
      · exact Or.inr e
      · exact Or.inl ((retry_first (hvd h) (by unfold N64 at hw; omega) (by have := hv.i; unfold N64 at this; omega) h1).2.1 e)
    · by_cases h2 : later < now
      · exact Or.inr (Or.inl h2)
      · by_cases h3 : pRetry P v now n ≤ later
        · exact Or.inr (Or.inr h3)
        · exact Or.inl ((retry_first (hvd h) (by unfold N64 at hw; omega) (by have := hv.i; unfold N64 at this; omega) h1).2.2 later (by omega) (by omega))
  exact key ⟨k, g, s, l, p⟩ ⟨t, i, c⟩ ⟨hg, hs, hl, hp⟩ ⟨ht, hi, hc⟩ w
end Go.Proofs.Ythpcjhihifhmgaa

/- The law PolicyForm returns true for every input, and changes nothing that was there. -/
import Derived.Test.YthpcjhihifhmgaaPlFaceLaw
import Derived.Test.YthpcjhihifhmgaaPlNum2
set_option linter.unusedVariables false
namespace Go.Proofs.Ythpcjhihifhmgaa
open Go Go.RowKit

set_option maxRecDepth 20000 in
set_option maxHeartbeats 12800000 in
theorem form_walk (k : Int) (g s l p t i c t' i' c' now n x y vt vi vc x1 y1 z1 R a b d L : Nat) (vd ok o1 o2 : Bool)
    (kA1 : ∀ w, Calls Try.prog 10 #[Pv k g s l p, Lv t i c, V now, V n] w fun e w' => e = .returned (.tuple #[Lv x1 y1 z1, .bool ok, V R]) ∧ Up w w')
    (kA2 : ∀ w, Calls Try.prog 10 #[Pv k g s l p, Lv vt vi vc, V now, V n] w fun e w' => e = .returned (.tuple #[Lv x1 y1 z1, .bool ok, V R]) ∧ Up w w')
    (kv : ∀ w, Calls Try.prog 12 #[Pv k g s l p] w fun e w' => e = .returned (.bool vd) ∧ Up w w')
    (kF1 : ∀ w, Calls Try.prog 19 #[Pv k g s l p, Lv x1 y1 z1] w fun e w' => e = .returned (.bool vd) ∧ Up w w')
    (kF2 : ∀ w, Calls Try.prog 19 #[Pv k g s l p, Lv a b d] w fun e w' => e = .returned (.bool vd) ∧ Up w w')
    (kM1 : ∀ w, Calls Try.prog 20 #[Pv k g s l p, Lv t i c, Lv t' i' c'] w fun e w' => e = .returned (Lv a b d) ∧ Up w w')
    (kM2 : ∀ w, Calls Try.prog 20 #[Pv k g s l p, Lv vt vi vc, Lv t' i' c'] w fun e w' => e = .returned (Lv a b d) ∧ Up w w')
    (kM3 : ∀ w, Calls Try.prog 20 #[Pv k g s l p, Lv t' i' c', Lv vt vi vc] w fun e w' => e = .returned (Lv a b d) ∧ Up w w')
    (kL1 : ∀ w, Calls Try.prog 11 #[Pv k g s l p, Lv vt vi vc, V now] w fun e w' => e = .returned (V L) ∧ Up w w')
    (kL2 : ∀ w, Calls Try.prog 11 #[Pv k g s l p, Lv t i c, V now] w fun e w' => e = .returned (V L) ∧ Up w w')
    (kC1 : ∀ w, Calls Try.prog 21 #[Pv k g s l p, Lv vt vi vc, Lv t' i' c'] w fun e w' => e = .returned (.bool o1) ∧ Up w w')
    (kC2 : ∀ w, Calls Try.prog 21 #[Pv k g s l p, Lv t i c, Lv t' i' c'] w fun e w' => e = .returned (.bool o1) ∧ Up w w')
    (kC3 : ∀ w, Calls Try.prog 21 #[Pv k g s l p, Lv t' i' c', Lv vt vi vc] w fun e w' => e = .returned (.bool o2) ∧ Up w w')
    (kC4 : ∀ w, Calls Try.prog 21 #[Pv k g s l p, Lv t' i' c', Lv t i c] w fun e w' => e = .returned (.bool o2) ∧ Up w w')
    (h1 : Hid (k = 1 → vt = t ∧ vi = x ∧ vc = y)) (h2 : Hid (k ≠ 1 → vt = x ∧ vi = i ∧ vc = c)) (hinv : Hid (vd = false → ok = false ∧ a = 0 ∧ b = 0 ∧ d = 0)) (w : World) :
    Calls Try.prog 5 #[Ak k g s l p t i c t' i' c' now n, V x, V y] w fun e w' => e = .returned (.bool true) ∧ Up w w' := by
  have q1 := fun w => level_eq x1 y1 z1 x1 y1 z1 w
  rw [decide_eq_true ⟨rfl, rfl, rfl⟩] at q1
  have q2 := fun w => level_neq x1 y1 z1 x1 y1 z1 w
  rw [decide_eq_false (fun h => h ⟨rfl, rfl, rfl⟩)] at q2
  have q3 := fun w => level_neq a b d a b d w
  rw [decide_eq_false (fun h => h ⟨rfl, rfl, rfl⟩)] at q3
  go_enter Try.func5, Try.ntmps5
  have v1 := Up.refl w
  go_wp2_with fail
  refine (awake_any _).mono ?_
  rintro e w2 ⟨rfl, u1⟩
  have bA : Box w2 w.heap.size #[.int .i64 k, V g, V s, V l, V p, V t, V i, V c, V t', V i', V c', V now, V n] := (Box.new _ _ _).up u1
  have g1 := (Up.alloc _ _).trans u1
  replace v1 := v1.trans g1
  clear u1 g1
  obtain ⟨c0, c1, c2, c3, c4, c5, c6, c7, c8, c9, c10, c11, c12⟩ := bA.c13
  have zA := bA.lt
  have hB : w.heap.size ≤ w.heap.size := Nat.le_refl _
  generalize hB0 : w.heap.size = B at *
  go_upto_if 22 with (fail)
  have bA2 : Box (w2.alloc (.cells #[V t, V i, V c] 29)) B #[.int .i64 k, V g, V s, V l, V p, V t, V i, V c, V t', V i', V c', V now, V n] := bA.alloc _
  have bU : Box (w2.alloc (.cells #[V t, V i, V c] 29)) w2.heap.size #[V t, V i, V c] := Box.new _ _ _
  have v2 := v1.trans (Up.alloc w2 (.cells #[V t, V i, V c] 29))
  generalize (w2.alloc (.cells #[V t, V i, V c] 29)) = w3 at *
  have hz : B < w2.heap.size := bA.lt
  have hw2 := v1.size
  generalize w2.heap.size = E at *
  clear v1 bA c0 c1 c2 c3 c4 c5 c6 c7 c8 c9 c10 c11 c12 zA
  go_cut [22] (fun s22 wx => Box wx B #[.int .i64 k, V g, V s, V l, V p, V t, V i, V c, V t', V i', V c', V now, V n] ∧ Box wx E #[V vt, V vi, V vc] ∧ Up w wx)
  case first =>
    clear kA1 kA2 kv kF1 kF2 kM1 kM2 kM3 kL1 kL2 kC1 kC2 kC3 kC4
    obtain ⟨u0, u1, u2⟩ := bU.c3
    have uf := bU.frozen
    have uz := bU.lt
    by_cases hk : k = 1
    · obtain ⟨rfl, rfl, rfl⟩ := h1.out hk
      subst hk
      clear h1 h2
      go_wp2_with fail
      go_meet
      case rel => exact ⟨(bA2.other (by omega) _ _).other (by omega) _ _, (bU.set 1 _).set 2 _, (v2.setCell (by simp only; omega) _).setCell (by simp only; omega) _⟩
    · obtain ⟨rfl, rfl, rfl⟩ := h2.out hk
      have hk' : ((k : Int) == 1) = false := by simp; exact hk
      clear h1 h2
      go_wp2_with fail
      go_meet
      case rel => exact ⟨bA2.other (by omega) _ _, bU.set 0 _, v2.setCell (by simp only; omega) _⟩
  case rest =>
    obtain ⟨bA, bU, v1⟩ := hcut
    clear h1 h2 bA2 v2
    obtain ⟨c0, c1, c2, c3, c4, c5, c6, c7, c8, c9, c10, c11, c12⟩ := bA.c13
    have zA := bA.lt
    obtain ⟨u0, u1, u2⟩ := bU.c3
    have zU := bU.lt
    go_wp2_with fail
    refine (kA1 _).mono ?_
    rintro e w4 ⟨rfl, u3⟩
    clear c0 c1 c2 c3 c4 c5 c6 c7 c8 c9 c10 c11 c12 zA u0 u1 u2 zU
    replace bA := bA.up u3
    replace bU := bU.up u3
    replace v1 := v1.trans u3
    clear u3
    obtain ⟨c0, c1, c2, c3, c4, c5, c6, c7, c8, c9, c10, c11, c12⟩ := bA.c13
    have zA := bA.lt
    obtain ⟨u0, u1, u2⟩ := bU.c3
    have zU := bU.lt
    go_wp2_with fail
    refine (kA2 _).mono ?_
    rintro e w5 ⟨rfl, u4⟩
    have bN : Box w5 w4.heap.size #[V x1, V y1, V z1] := (Box.new _ _ _).up u4
    have g4 := (Up.alloc _ _).trans u4
    clear c0 c1 c2 c3 c4 c5 c6 c7 c8 c9 c10 c11 c12 zA u0 u1 u2 zU
    replace bA := bA.up g4
    replace bU := bU.up g4
    replace v1 := v1.trans g4
    clear u4 g4
    obtain ⟨c0, c1, c2, c3, c4, c5, c6, c7, c8, c9, c10, c11, c12⟩ := bA.c13
    have zA := bA.lt
    obtain ⟨u0, u1, u2⟩ := bU.c3
    have zU := bU.lt
    obtain ⟨m0, m1, m2⟩ := bN.c3
    have zN := bN.lt
    generalize w4.heap.size = G1 at *
    go_wp2_with fail
    refine (kv _).mono ?_
    rintro e w6 ⟨rfl, u5⟩
    have bO : Box w6 w5.heap.size #[V x1, V y1, V z1] := (Box.new _ _ _).up u5
    have g5 := (Up.alloc _ _).trans u5
    clear c0 c1 c2 c3 c4 c5 c6 c7 c8 c9 c10 c11 c12 zA u0 u1 u2 zU m0 m1 m2 zN
    replace bA := bA.up g5
    replace bU := bU.up g5
    replace bN := bN.up g5
    replace v1 := v1.trans g5
    clear u5 g5
    obtain ⟨c0, c1, c2, c3, c4, c5, c6, c7, c8, c9, c10, c11, c12⟩ := bA.c13
    have zA := bA.lt
    obtain ⟨u0, u1, u2⟩ := bU.c3
    have zU := bU.lt
    obtain ⟨m0, m1, m2⟩ := bN.c3
    have zN := bN.lt
    obtain ⟨n0, n1, n2⟩ := bO.c3
    have zO := bO.lt
    generalize w5.heap.size = G2 at *
    clear kA1 kA2 kv
    cases vd
    · obtain ⟨rfl, rfl, rfl, rfl⟩ := hinv.out rfl
      clear hinv kF2 kM2 kM3 kL1 kL2 kC1 kC2 kC3 kC4
      go_wp2_with fail
      refine (kF1 _).mono ?_
      rintro e w7 ⟨rfl, u6⟩
      clear c0 c1 c2 c3 c4 c5 c6 c7 c8 c9 c10 c11 c12 zA u0 u1 u2 zU m0 m1 m2 zN n0 n1 n2 zO
      replace bA := bA.up u6
      replace bU := bU.up u6
      replace bN := bN.up u6
      replace bO := bO.up u6
      replace v1 := v1.trans u6
      clear u6
      obtain ⟨c0, c1, c2, c3, c4, c5, c6, c7, c8, c9, c10, c11, c12⟩ := bA.c13
      have zA := bA.lt
      obtain ⟨u0, u1, u2⟩ := bU.c3
      have zU := bU.lt
      obtain ⟨m0, m1, m2⟩ := bN.c3
      have zN := bN.lt
      obtain ⟨n0, n1, n2⟩ := bO.c3
      have zO := bO.lt
      go_wp2_with fail
      refine (kM1 _).mono ?_
      rintro e w8 ⟨rfl, u7⟩
      clear c0 c1 c2 c3 c4 c5 c6 c7 c8 c9 c10 c11 c12 zA u0 u1 u2 zU m0 m1 m2 zN n0 n1 n2 zO
      replace bA := bA.up u7
      replace bU := bU.up u7
      replace bN := bN.up u7
      replace bO := bO.up u7
      replace v1 := v1.trans u7
      clear u7
      obtain ⟨c0, c1, c2, c3, c4, c5, c6, c7, c8, c9, c10, c11, c12⟩ := bA.c13
      have zA := bA.lt
      obtain ⟨u0, u1, u2⟩ := bU.c3
      have zU := bU.lt
      obtain ⟨m0, m1, m2⟩ := bN.c3
      have zN := bN.lt
      obtain ⟨n0, n1, n2⟩ := bO.c3
      have zO := bO.lt
      go_wp2
      go_ret
      exact ⟨rfl, v1⟩
    · clear hinv
      go_wp2_with fail
      refine (kM1 _).mono ?_
      rintro e w7 ⟨rfl, u6⟩
      clear c0 c1 c2 c3 c4 c5 c6 c7 c8 c9 c10 c11 c12 zA u0 u1 u2 zU m0 m1 m2 zN n0 n1 n2 zO
      replace bA := bA.up u6
      replace bU := bU.up u6
      replace bN := bN.up u6
      replace bO := bO.up u6
      replace v1 := v1.trans u6
      clear u6
      obtain ⟨c0, c1, c2, c3, c4, c5, c6, c7, c8, c9, c10, c11, c12⟩ := bA.c13
      have zA := bA.lt
      obtain ⟨u0, u1, u2⟩ := bU.c3
      have zU := bU.lt
      obtain ⟨m0, m1, m2⟩ := bN.c3
      have zN := bN.lt
      obtain ⟨n0, n1, n2⟩ := bO.c3
      have zO := bO.lt
      clear c0 c1 c2 c3 c4 c5 c6 c7 c8 c9 c10 c11 c12 zA u0 u1 u2 zU m0 m1 m2 zN n0 n1 n2 zO
      go_wp2_with fail
      have bT : Box (w7.alloc (.cells #[V a, V b, V d] 29)) w7.heap.size #[V a, V b, V d] := Box.new _ _ _
      have v2 := Up.alloc w7 (.cells #[V a, V b, V d] 29)
      replace bA := bA.up v2
      replace bU := bU.up v2
      replace bN := bN.up v2
      replace bO := bO.up v2
      replace v1 := v1.trans v2
      generalize (w7.alloc (.cells #[V a, V b, V d] 29)) = w8 at *
      generalize w7.heap.size = G3 at *
      clear v2 kM1
      have sof : ∀ {w' : World}, Up w8 w' → w'.cell? ⟨B, 0, none⟩ = some (.int .i64 k) ∧ w'.cell? ⟨B, 1, none⟩ = some (V g) ∧ w'.cell? ⟨B, 2, none⟩ = some (V s) ∧ w'.cell? ⟨B, 3, none⟩ = some (V l) ∧ w'.cell? ⟨B, 4, none⟩ = some (V p) ∧ w'.cell? ⟨B, 8, none⟩ = some (V t') ∧ w'.cell? ⟨B, 9, none⟩ = some (V i') ∧ w'.cell? ⟨B, 10, none⟩ = some (V c') ∧ w'.cell? ⟨E, 0, none⟩ = some (V vt) ∧ w'.cell? ⟨E, 1, none⟩ = some (V vi) ∧ w'.cell? ⟨E, 2, none⟩ = some (V vc) ∧ w'.cell? ⟨G1, 0, none⟩ = some (V x1) ∧ w'.cell? ⟨G1, 1, none⟩ = some (V y1) ∧ w'.cell? ⟨G1, 2, none⟩ = some (V z1) ∧ w'.cell? ⟨G2, 0, none⟩ = some (V x1) ∧ w'.cell? ⟨G2, 1, none⟩ = some (V y1) ∧ w'.cell? ⟨G2, 2, none⟩ = some (V z1) ∧ w'.cell? ⟨G3, 0, none⟩ = some (V a) ∧ w'.cell? ⟨G3, 1, none⟩ = some (V b) ∧ w'.cell? ⟨G3, 2, none⟩ = some (V d) := fun u => ⟨(bA.up u).cell 0, (bA.up u).cell 1, (bA.up u).cell 2, (bA.up u).cell 3, (bA.up u).cell 4, (bA.up u).cell 8, (bA.up u).cell 9, (bA.up u).cell 10, (bU.up u).cell 0, (bU.up u).cell 1, (bU.up u).cell 2, (bN.up u).cell 0, (bN.up u).cell 1, (bN.up u).cell 2, (bO.up u).cell 0, (bO.up u).cell 1, (bO.up u).cell 2, (bT.up u).cell 0, (bT.up u).cell 1, (bT.up u).cell 2⟩
      have hu := Up.drew w8
      have hs := sof hu
      clear q1 hB hz hw2
      go_region_held3 (fun w' => w'.cell? ⟨B, 0, none⟩ = some (.int .i64 k) ∧ w'.cell? ⟨B, 1, none⟩ = some (V g) ∧ w'.cell? ⟨B, 2, none⟩ = some (V s) ∧ w'.cell? ⟨B, 3, none⟩ = some (V l) ∧ w'.cell? ⟨B, 4, none⟩ = some (V p) ∧ w'.cell? ⟨B, 8, none⟩ = some (V t') ∧ w'.cell? ⟨B, 9, none⟩ = some (V i') ∧ w'.cell? ⟨B, 10, none⟩ = some (V c') ∧ w'.cell? ⟨E, 0, none⟩ = some (V vt) ∧ w'.cell? ⟨E, 1, none⟩ = some (V vi) ∧ w'.cell? ⟨E, 2, none⟩ = some (V vc) ∧ w'.cell? ⟨G1, 0, none⟩ = some (V x1) ∧ w'.cell? ⟨G1, 1, none⟩ = some (V y1) ∧ w'.cell? ⟨G1, 2, none⟩ = some (V z1) ∧ w'.cell? ⟨G2, 0, none⟩ = some (V x1) ∧ w'.cell? ⟨G2, 1, none⟩ = some (V y1) ∧ w'.cell? ⟨G2, 2, none⟩ = some (V z1) ∧ w'.cell? ⟨G3, 0, none⟩ = some (V a) ∧ w'.cell? ⟨G3, 1, none⟩ = some (V b) ∧ w'.cell? ⟨G3, 2, none⟩ = some (V d)) (with_reducible exact hs)
        (first
        | (go_at_call_of 19 [Value.agg #[V x1, V y1, V z1]]; refine (kF1 _).mono ?_; rintro e w9 ⟨rfl, u9⟩; replace hs := sof (Up.trans hu u9); replace hu := Up.trans hu u9)
        | (go_at_call_of 19 [Value.agg #[V a, V b, V d]]; refine (kF2 _).mono ?_; rintro e w9 ⟨rfl, u9⟩; replace hs := sof (Up.trans hu u9); replace hu := Up.trans hu u9)
        | (go_at_call_of 20 [Value.agg #[V vt, V vi, V vc], Value.agg #[V t', V i', V c']]; refine (kM2 _).mono ?_; rintro e w9 ⟨rfl, u9⟩; replace hs := sof (Up.trans hu u9); replace hu := Up.trans hu u9)
        | (go_at_call_of 20 [Value.agg #[V t', V i', V c'], Value.agg #[V vt, V vi, V vc]]; refine (kM3 _).mono ?_; rintro e w9 ⟨rfl, u9⟩; replace hs := sof (Up.trans hu u9); replace hu := Up.trans hu u9))
      clear hs sof kF1 kF2 kM2 kM3
      go_wp2_with fail
      have sof : ∀ {w' : World}, Up w8 w' → w'.cell? ⟨B, 0, none⟩ = some (.int .i64 k) ∧ w'.cell? ⟨B, 1, none⟩ = some (V g) ∧ w'.cell? ⟨B, 2, none⟩ = some (V s) ∧ w'.cell? ⟨B, 3, none⟩ = some (V l) ∧ w'.cell? ⟨B, 4, none⟩ = some (V p) ∧ w'.cell? ⟨B, 5, none⟩ = some (V t) ∧ w'.cell? ⟨B, 6, none⟩ = some (V i) ∧ w'.cell? ⟨B, 7, none⟩ = some (V c) ∧ w'.cell? ⟨B, 8, none⟩ = some (V t') ∧ w'.cell? ⟨B, 9, none⟩ = some (V i') ∧ w'.cell? ⟨B, 10, none⟩ = some (V c') ∧ w'.cell? ⟨B, 11, none⟩ = some (V now) ∧ w'.cell? ⟨E, 0, none⟩ = some (V vt) ∧ w'.cell? ⟨E, 1, none⟩ = some (V vi) ∧ w'.cell? ⟨E, 2, none⟩ = some (V vc) := fun u => ⟨(bA.up u).cell 0, (bA.up u).cell 1, (bA.up u).cell 2, (bA.up u).cell 3, (bA.up u).cell 4, (bA.up u).cell 5, (bA.up u).cell 6, (bA.up u).cell 7, (bA.up u).cell 8, (bA.up u).cell 9, (bA.up u).cell 10, (bA.up u).cell 11, (bU.up u).cell 0, (bU.up u).cell 1, (bU.up u).cell 2⟩
      replace hu := Up.trans hu (Up.drew _)
      have hs := sof hu
      clear q2 q3
      go_region_held3 (fun w' => w'.cell? ⟨B, 0, none⟩ = some (.int .i64 k) ∧ w'.cell? ⟨B, 1, none⟩ = some (V g) ∧ w'.cell? ⟨B, 2, none⟩ = some (V s) ∧ w'.cell? ⟨B, 3, none⟩ = some (V l) ∧ w'.cell? ⟨B, 4, none⟩ = some (V p) ∧ w'.cell? ⟨B, 5, none⟩ = some (V t) ∧ w'.cell? ⟨B, 6, none⟩ = some (V i) ∧ w'.cell? ⟨B, 7, none⟩ = some (V c) ∧ w'.cell? ⟨B, 8, none⟩ = some (V t') ∧ w'.cell? ⟨B, 9, none⟩ = some (V i') ∧ w'.cell? ⟨B, 10, none⟩ = some (V c') ∧ w'.cell? ⟨B, 11, none⟩ = some (V now) ∧ w'.cell? ⟨E, 0, none⟩ = some (V vt) ∧ w'.cell? ⟨E, 1, none⟩ = some (V vi) ∧ w'.cell? ⟨E, 2, none⟩ = some (V vc)) (with_reducible exact hs)
        (first
        | (go_at_call_of 11 [Value.agg #[V vt, V vi, V vc], V now]; refine (kL1 _).mono ?_; rintro e w9 ⟨rfl, u9⟩; replace hs := sof (Up.trans hu u9); replace hu := Up.trans hu u9)
        | (go_at_call_of 11 [Value.agg #[V t, V i, V c], V now]; refine (kL2 _).mono ?_; rintro e w9 ⟨rfl, u9⟩; replace hs := sof (Up.trans hu u9); replace hu := Up.trans hu u9)
        | (go_at_call_of 21 [Value.agg #[V vt, V vi, V vc], Value.agg #[V t', V i', V c']]; refine (kC1 _).mono ?_; rintro e w9 ⟨rfl, u9⟩; replace hs := sof (Up.trans hu u9); replace hu := Up.trans hu u9)
        | (go_at_call_of 21 [Value.agg #[V t, V i, V c], Value.agg #[V t', V i', V c']]; refine (kC2 _).mono ?_; rintro e w9 ⟨rfl, u9⟩; replace hs := sof (Up.trans hu u9); replace hu := Up.trans hu u9)
        | (go_at_call_of 21 [Value.agg #[V t', V i', V c'], Value.agg #[V vt, V vi, V vc]]; refine (kC3 _).mono ?_; rintro e w9 ⟨rfl, u9⟩; replace hs := sof (Up.trans hu u9); replace hu := Up.trans hu u9)
        | (go_at_call_of 21 [Value.agg #[V t', V i', V c'], Value.agg #[V t, V i, V c]]; refine (kC4 _).mono ?_; rintro e w9 ⟨rfl, u9⟩; replace hs := sof (Up.trans hu u9); replace hu := Up.trans hu u9))
      go_wp2
      go_ret
      exact ⟨rfl, v1.trans hu⟩

theorem new_alike {P : Pol} {v u : Lev} (h : Alike P v u) (now n : Nat) : pNew P u now n = pNew P v now n ∧ pOk P u now n = pOk P v now n ∧ pRetry P u now n = pRetry P v now n := by
  have e := form_alike h
  exact ⟨by rw [← new_form u, ← e, new_form], by rw [← ok_form u, ← e, ok_form], by rw [← retry_form u, ← e, retry_form]⟩
theorem PolicyForm_any (k : Int) (g s l p t i c t' i' c' now n x y : Nat) (hg : N64 g) (hs : N64 s) (hl : N64 l) (hp : N64 p) (ht : N64 t) (hi : N64 i) (hc : N64 c) (hw : N64 now) (hn : N64 n) (hx : N64 x) (hy : N64 y) (w : World) :
    Calls Try.prog 5 #[Ak k g s l p t i c t' i' c' now n, V x, V y] w fun e w' => e = .returned (.bool true) ∧ Up w w' := by
  have key : ∀ (P : Pol) (v u o : Lev), P.Ok → v.Ok → u.Ok → Alike P v u → (P.k = 1 → u.t = v.t ∧ u.i = x ∧ u.c = y) → (P.k ≠ 1 → u.t = x ∧ u.i = v.i ∧ u.c = v.c) →
      ∀ w, Calls Try.prog 5 #[Ak P.k P.g P.s P.l P.p v.t v.i v.c o.t o.i o.c now n, V x, V y] w fun e w' => e = .returned (.bool true) ∧ Up w w' := by
    intro P v u o hP hv hu ha h1 h2 w
    have ef := form_alike ha
    obtain ⟨e1, e2, e3⟩ := new_alike ha now n
    have kA2 := admit_call P u now n hP hu hw hn
    rw [e1, e2, e3] at kA2
    have kF1 := fits_call P (pNew P v now n)
    have kF2 := fits_call P (pMax P v o)
    have hF1 : pFits P (pNew P v now n) = pValid P := by
      by_cases h : P.Is
      · rw [fits_in_form h (new_in_form v now n), show pValid P = true from decide_eq_true h]
      · rw [show pValid P = false from decide_eq_false h]; exact decide_eq_false (fun k => h k.1)
    have hF2 : pFits P (pMax P v o) = pValid P := by
      by_cases h : P.Is
      · rw [fits_in_form h (max_in_form v o), show pValid P = true from decide_eq_true h]
      · rw [show pValid P = false from decide_eq_false h]; exact decide_eq_false (fun k => h k.1)
    rw [hF1] at kF1
    rw [hF2] at kF2
    have kM2 := max_call P u o
    rw [← max_form u o, ← ef, max_form] at kM2
    have kM3 := max_call P o u
    have em : pMax P o u = pMax P v o := by
      by_cases h : P.Is
      · rw [max_comm h o u, ← max_form u o, ← ef, max_form]
      · have hz : ∀ a b, pMax P a b = Lev0 := fun a b => by unfold pMax pForm; rw [if_neg (fun k => h (Or.inl k)), if_neg (fun k => h (Or.inr k)), if_neg (fun k => h (Or.inl k)), if_neg (fun k => h (Or.inr k))]; split <;> rfl
        rw [hz, hz]
    rw [em] at kM3
    have kL1 := left_call P u now hP hu hw
    rw [← left_form u, ← ef, left_form] at kL1
    have kC1 := covers_call P u o
    rw [← cov_formN u o, ← ef, cov_formN] at kC1
    have kC3 := covers_call P o u
    rw [← cov_formN' o u, ← ef, cov_formN'] at kC3
    refine form_walk P.k P.g P.s P.l P.p v.t v.i v.c o.t o.i o.c now n x y u.t u.i u.c _ _ _ _ _ _ _ _ _ _ _ _ (admit_call P v now n hP hv hw hn) kA2 (valid_call P) kF1 kF2 (max_call P v o) kM2 kM3 kL1 (left_call P v now hP hv hw) kC1 (covers_call P v o) kC3 (covers_call P o v) h1 h2 (fun h => ?_) w
    have hno : ¬ P.Is := fun k => by rw [show pValid P = true from decide_eq_true k] at h; cases h
    have hz : pMax P v o = Lev0 := by unfold pMax pForm; rw [if_neg (fun k => hno (Or.inl k)), if_neg (fun k => hno (Or.inr k)), if_neg (fun k => hno (Or.inl k)), if_neg (fun k => hno (Or.inr k))]; split <;> rfl
    rw [hz]
    refine ⟨?_, rfl, rfl, rfl⟩
    unfold pOk; rw [if_neg (fun k => hno (Or.inl k)), if_neg (fun k => hno (Or.inr k))]
  by_cases hk : k = 1
  · exact key ⟨k, g, s, l, p⟩ ⟨t, i, c⟩ ⟨t, x, y⟩ ⟨t', i', c'⟩ ⟨hg, hs, hl, hp⟩ ⟨ht, hi, hc⟩ ⟨ht, hx, hy⟩ (by unfold Alike; rw [if_pos hk]) (fun _ => ⟨rfl, rfl, rfl⟩) (fun h => absurd hk h) w
  · exact key ⟨k, g, s, l, p⟩ ⟨t, i, c⟩ ⟨x, i, c⟩ ⟨t', i', c'⟩ ⟨hg, hs, hl, hp⟩ ⟨ht, hi, hc⟩ ⟨hx, hi, hc⟩ (by unfold Alike; rw [if_neg hk]; exact ⟨rfl, rfl⟩) (fun h => absurd h hk) (fun _ => ⟨rfl, rfl, rfl⟩) w
end Go.Proofs.Ythpcjhihifhmgaa

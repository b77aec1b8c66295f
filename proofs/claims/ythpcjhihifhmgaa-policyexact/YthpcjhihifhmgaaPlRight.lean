/- policy: the law's function right answers true for every Ask. -/
import Derived.Test.YthpcjhihifhmgaaPlRef4
import Derived.Test.YthpcjhihifhmgaaPlFaceLaw
set_option linter.unusedVariables false
namespace Go.Proofs.Ythpcjhihifhmgaa
open Go Go.RowKit

set_option maxRecDepth 20000 in
set_option maxHeartbeats 12800000 in
theorem right_walk (k : Int) (g s l p t i c t' i' c' now n x y z R L a b d : Nat) (vd ft ok cv : Bool)
    (kValid : ∀ w, Calls Try.prog 12 #[Pv k g s l p] w fun e w' => e = .returned (.bool vd) ∧ Up w w') (rValid : ∀ w, Calls Try.prog 24 #[Pv k g s l p] w fun e w' => e = .returned (.bool vd) ∧ Up w w')
    (kFits : ∀ w, Calls Try.prog 19 #[Pv k g s l p, Lv t i c] w fun e w' => e = .returned (.bool ft) ∧ Up w w') (rFits : ∀ w, Calls Try.prog 25 #[Pv k g s l p, Lv t i c] w fun e w' => e = .returned (.bool ft) ∧ Up w w')
    (kAdmit : ∀ w, Calls Try.prog 10 #[Pv k g s l p, Lv t i c, V now, V n] w fun e w' => e = .returned (.tuple #[Lv x y z, .bool ok, V R]) ∧ Up w w') (rAdmit : ∀ w, Calls Try.prog 26 #[Pv k g s l p, Lv t i c, V now, V n] w fun e w' => e = .returned (.tuple #[Lv x y z, .bool ok, V R]) ∧ Up w w')
    (kLeft : ∀ w, Calls Try.prog 11 #[Pv k g s l p, Lv t i c, V now] w fun e w' => e = .returned (V L) ∧ Up w w') (rLeft : ∀ w, Calls Try.prog 27 #[Pv k g s l p, Lv t i c, V now] w fun e w' => e = .returned (V L) ∧ Up w w')
    (kCovers : ∀ w, Calls Try.prog 21 #[Pv k g s l p, Lv t i c, Lv t' i' c'] w fun e w' => e = .returned (.bool cv) ∧ Up w w') (rCovers : ∀ w, Calls Try.prog 28 #[Pv k g s l p, Lv t i c, Lv t' i' c'] w fun e w' => e = .returned (.bool cv) ∧ Up w w')
    (kMax : ∀ w, Calls Try.prog 20 #[Pv k g s l p, Lv t i c, Lv t' i' c'] w fun e w' => e = .returned (Lv a b d) ∧ Up w w') (rMax : ∀ w, Calls Try.prog 29 #[Pv k g s l p, Lv t i c, Lv t' i' c'] w fun e w' => e = .returned (Lv a b d) ∧ Up w w')
    (w : World) :
    Calls Try.prog 9 #[Ak k g s l p t i c t' i' c' now n] w fun e w' => e = .returned (.bool true) ∧ Up w w' := by
  have q2 := fun w => level_neq x y z x y z w
  rw [decide_eq_false (fun h => h ⟨rfl, rfl, rfl⟩)] at q2
  have q3 := fun w => level_eq a b d a b d w
  rw [decide_eq_true ⟨rfl, rfl, rfl⟩] at q3
  go_enter Try.func9, Try.ntmps9
  go_wp2_with fail
  have bA : Box (w.alloc (.cells #[.int .i64 k, V g, V s, V l, V p, V t, V i, V c, V t', V i', V c', V now, V n] 31)) w.heap.size #[.int .i64 k, V g, V s, V l, V p, V t, V i, V c, V t', V i', V c', V now, V n] := Box.new _ _ _
  have v1 := Up.alloc w (.cells #[.int .i64 k, V g, V s, V l, V p, V t, V i, V c, V t', V i', V c', V now, V n] 31)
  generalize (w.alloc (.cells #[.int .i64 k, V g, V s, V l, V p, V t, V i, V c, V t', V i', V c', V now, V n] 31)) = w1 at *
  generalize w.heap.size = B at *
  have sof : ∀ {w' : World}, Up w1 w' → w'.cell? ⟨B, 0, none⟩ = some (.int .i64 k) ∧ w'.cell? ⟨B, 1, none⟩ = some (V g) ∧ w'.cell? ⟨B, 2, none⟩ = some (V s) ∧ w'.cell? ⟨B, 3, none⟩ = some (V l) ∧ w'.cell? ⟨B, 4, none⟩ = some (V p) ∧ w'.cell? ⟨B, 5, none⟩ = some (V t) ∧ w'.cell? ⟨B, 6, none⟩ = some (V i) ∧ w'.cell? ⟨B, 7, none⟩ = some (V c) := fun u => ⟨(bA.up u).cell 0, (bA.up u).cell 1, (bA.up u).cell 2, (bA.up u).cell 3, (bA.up u).cell 4, (bA.up u).cell 5, (bA.up u).cell 6, (bA.up u).cell 7⟩
  have hu := Up.drew w1
  have hs := sof hu
  go_region_held3 (fun w' => w'.cell? ⟨B, 0, none⟩ = some (.int .i64 k) ∧ w'.cell? ⟨B, 1, none⟩ = some (V g) ∧ w'.cell? ⟨B, 2, none⟩ = some (V s) ∧ w'.cell? ⟨B, 3, none⟩ = some (V l) ∧ w'.cell? ⟨B, 4, none⟩ = some (V p) ∧ w'.cell? ⟨B, 5, none⟩ = some (V t) ∧ w'.cell? ⟨B, 6, none⟩ = some (V i) ∧ w'.cell? ⟨B, 7, none⟩ = some (V c)) (with_reducible exact hs)
    (first
    | (go_at_call 12; refine (kValid _).mono ?_; rintro e w9 ⟨rfl, u9⟩; replace hs := sof (Up.trans hu u9); replace hu := Up.trans hu u9)
    | (go_at_call 19; refine (kFits _).mono ?_; rintro e w9 ⟨rfl, u9⟩; replace hs := sof (Up.trans hu u9); replace hu := Up.trans hu u9)
    | (go_at_call 24; refine (rValid _).mono ?_; rintro e w9 ⟨rfl, u9⟩; replace hs := sof (Up.trans hu u9); replace hu := Up.trans hu u9)
    | (go_at_call 25; refine (rFits _).mono ?_; rintro e w9 ⟨rfl, u9⟩; replace hs := sof (Up.trans hu u9); replace hu := Up.trans hu u9))
  replace bA := bA.up hu
  replace v1 := v1.trans hu
  clear hs hu sof kValid rValid kFits rFits
  obtain ⟨c0, c1, c2, c3, c4, c5, c6, c7, c8, c9, c10, c11, c12⟩ := bA.c13
  have zA := bA.lt
  go_wp2_with fail
  refine (kAdmit _).mono ?_
  rintro e w21 ⟨rfl, u20⟩
  clear c0 c1 c2 c3 c4 c5 c6 c7 c8 c9 c10 c11 c12 zA
  replace bA := bA.up u20
  replace v1 := v1.trans u20
  clear u20
  obtain ⟨c0, c1, c2, c3, c4, c5, c6, c7, c8, c9, c10, c11, c12⟩ := bA.c13
  have zA := bA.lt
  go_wp2_with fail
  refine (rAdmit _).mono ?_
  rintro e w22 ⟨rfl, u21⟩
  have bN : Box w22 w21.heap.size #[V x, V y, V z] := (Box.new _ _ _).up u21
  have g21 := (Up.alloc _ _).trans u21
  clear c0 c1 c2 c3 c4 c5 c6 c7 c8 c9 c10 c11 c12 zA
  replace bA := bA.up g21
  replace v1 := v1.trans g21
  clear u21 g21
  obtain ⟨c0, c1, c2, c3, c4, c5, c6, c7, c8, c9, c10, c11, c12⟩ := bA.c13
  have zA := bA.lt
  obtain ⟨m0, m1, m2⟩ := bN.c3
  have zN := bN.lt
  generalize w21.heap.size = G1 at *
  clear c0 c1 c2 c3 c4 c5 c6 c7 c8 c9 c10 c11 c12 zA m0 m1 m2 zN
  go_wp2_with fail
  have bO : Box (w22.alloc (.cells #[V x, V y, V z] 29)) w22.heap.size #[V x, V y, V z] := Box.new _ _ _
  have v2 := Up.alloc w22 (.cells #[V x, V y, V z] 29)
  replace bA := bA.up v2
  replace bN := bN.up v2
  replace v1 := v1.trans v2
  generalize (w22.alloc (.cells #[V x, V y, V z] 29)) = w23 at *
  generalize w22.heap.size = G2 at *
  clear v2 kAdmit rAdmit
  have sof : ∀ {w' : World}, Up w23 w' → w'.cell? ⟨B, 0, none⟩ = some (.int .i64 k) ∧ w'.cell? ⟨B, 1, none⟩ = some (V g) ∧ w'.cell? ⟨B, 2, none⟩ = some (V s) ∧ w'.cell? ⟨B, 3, none⟩ = some (V l) ∧ w'.cell? ⟨B, 4, none⟩ = some (V p) ∧ w'.cell? ⟨B, 5, none⟩ = some (V t) ∧ w'.cell? ⟨B, 6, none⟩ = some (V i) ∧ w'.cell? ⟨B, 7, none⟩ = some (V c) ∧ w'.cell? ⟨B, 11, none⟩ = some (V now) ∧ w'.cell? ⟨G1, 0, none⟩ = some (V x) ∧ w'.cell? ⟨G1, 1, none⟩ = some (V y) ∧ w'.cell? ⟨G1, 2, none⟩ = some (V z) ∧ w'.cell? ⟨G2, 0, none⟩ = some (V x) ∧ w'.cell? ⟨G2, 1, none⟩ = some (V y) ∧ w'.cell? ⟨G2, 2, none⟩ = some (V z) := fun u => ⟨(bA.up u).cell 0, (bA.up u).cell 1, (bA.up u).cell 2, (bA.up u).cell 3, (bA.up u).cell 4, (bA.up u).cell 5, (bA.up u).cell 6, (bA.up u).cell 7, (bA.up u).cell 11, (bN.up u).cell 0, (bN.up u).cell 1, (bN.up u).cell 2, (bO.up u).cell 0, (bO.up u).cell 1, (bO.up u).cell 2⟩
  have hu := Up.drew w23
  have hs := sof hu
  go_region_held3 (fun w' => w'.cell? ⟨B, 0, none⟩ = some (.int .i64 k) ∧ w'.cell? ⟨B, 1, none⟩ = some (V g) ∧ w'.cell? ⟨B, 2, none⟩ = some (V s) ∧ w'.cell? ⟨B, 3, none⟩ = some (V l) ∧ w'.cell? ⟨B, 4, none⟩ = some (V p) ∧ w'.cell? ⟨B, 5, none⟩ = some (V t) ∧ w'.cell? ⟨B, 6, none⟩ = some (V i) ∧ w'.cell? ⟨B, 7, none⟩ = some (V c) ∧ w'.cell? ⟨B, 11, none⟩ = some (V now) ∧ w'.cell? ⟨G1, 0, none⟩ = some (V x) ∧ w'.cell? ⟨G1, 1, none⟩ = some (V y) ∧ w'.cell? ⟨G1, 2, none⟩ = some (V z) ∧ w'.cell? ⟨G2, 0, none⟩ = some (V x) ∧ w'.cell? ⟨G2, 1, none⟩ = some (V y) ∧ w'.cell? ⟨G2, 2, none⟩ = some (V z)) (with_reducible exact hs)
    (first
    | (go_at_call 11; refine (kLeft _).mono ?_; rintro e w9 ⟨rfl, u9⟩; replace hs := sof (Up.trans hu u9); replace hu := Up.trans hu u9)
    | (go_at_call 27; refine (rLeft _).mono ?_; rintro e w9 ⟨rfl, u9⟩; replace hs := sof (Up.trans hu u9); replace hu := Up.trans hu u9))
  replace bA := bA.up hu
  replace v1 := v1.trans hu
  clear hs hu sof kLeft rLeft bN bO q2
  go_wp2_with fail
  have sof : ∀ {w' : World}, Up w9 w' → w'.cell? ⟨B, 0, none⟩ = some (.int .i64 k) ∧ w'.cell? ⟨B, 1, none⟩ = some (V g) ∧ w'.cell? ⟨B, 2, none⟩ = some (V s) ∧ w'.cell? ⟨B, 3, none⟩ = some (V l) ∧ w'.cell? ⟨B, 4, none⟩ = some (V p) ∧ w'.cell? ⟨B, 5, none⟩ = some (V t) ∧ w'.cell? ⟨B, 6, none⟩ = some (V i) ∧ w'.cell? ⟨B, 7, none⟩ = some (V c) ∧ w'.cell? ⟨B, 8, none⟩ = some (V t') ∧ w'.cell? ⟨B, 9, none⟩ = some (V i') ∧ w'.cell? ⟨B, 10, none⟩ = some (V c') := fun u => ⟨(bA.up u).cell 0, (bA.up u).cell 1, (bA.up u).cell 2, (bA.up u).cell 3, (bA.up u).cell 4, (bA.up u).cell 5, (bA.up u).cell 6, (bA.up u).cell 7, (bA.up u).cell 8, (bA.up u).cell 9, (bA.up u).cell 10⟩
  have hu := Up.drew w9
  have hs := sof hu
  go_region_held3 (fun w' => w'.cell? ⟨B, 0, none⟩ = some (.int .i64 k) ∧ w'.cell? ⟨B, 1, none⟩ = some (V g) ∧ w'.cell? ⟨B, 2, none⟩ = some (V s) ∧ w'.cell? ⟨B, 3, none⟩ = some (V l) ∧ w'.cell? ⟨B, 4, none⟩ = some (V p) ∧ w'.cell? ⟨B, 5, none⟩ = some (V t) ∧ w'.cell? ⟨B, 6, none⟩ = some (V i) ∧ w'.cell? ⟨B, 7, none⟩ = some (V c) ∧ w'.cell? ⟨B, 8, none⟩ = some (V t') ∧ w'.cell? ⟨B, 9, none⟩ = some (V i') ∧ w'.cell? ⟨B, 10, none⟩ = some (V c')) (with_reducible exact hs)
    (first
    | (go_at_call 21; refine (kCovers _).mono ?_; rintro e w8 ⟨rfl, u8⟩; replace hs := sof (Up.trans hu u8); replace hu := Up.trans hu u8)
    | (go_at_call 20; refine (kMax _).mono ?_; rintro e w8 ⟨rfl, u8⟩; replace hs := sof (Up.trans hu u8); replace hu := Up.trans hu u8)
    | (go_at_call 28; refine (rCovers _).mono ?_; rintro e w8 ⟨rfl, u8⟩; replace hs := sof (Up.trans hu u8); replace hu := Up.trans hu u8)
    | (go_at_call 29; refine (rMax _).mono ?_; rintro e w8 ⟨rfl, u8⟩; replace hs := sof (Up.trans hu u8); replace hu := Up.trans hu u8))
  go_wp2
  go_ret
  exact ⟨rfl, v1.trans hu⟩

theorem right_any (k : Int) (g s l p t i c t' i' c' now n : Nat) (hg : N64 g) (hs : N64 s) (hl : N64 l) (hp : N64 p) (ht : N64 t) (hi : N64 i) (hc : N64 c) (hw : N64 now) (hn : N64 n) (w : World) :
    Calls Try.prog 9 #[Ak k g s l p t i c t' i' c' now n] w fun e w' => e = .returned (.bool true) ∧ Up w w' := by
  have hP : Pol.Ok ⟨k, g, s, l, p⟩ := ⟨hg, hs, hl, hp⟩
  have hv : Lev.Ok ⟨t, i, c⟩ := ⟨ht, hi, hc⟩
  exact right_walk k g s l p t i c t' i' c' now n _ _ _ _ _ _ _ _ _ _ _ _ (valid_call ⟨k, g, s, l, p⟩) (rvalid_call ⟨k, g, s, l, p⟩) (fits_call ⟨k, g, s, l, p⟩ ⟨t, i, c⟩) (rfits_call ⟨k, g, s, l, p⟩ ⟨t, i, c⟩)
    (admit_call ⟨k, g, s, l, p⟩ ⟨t, i, c⟩ now n hP hv hw hn) (radmit_call ⟨k, g, s, l, p⟩ ⟨t, i, c⟩ now n hP hv hw hn) (left_call ⟨k, g, s, l, p⟩ ⟨t, i, c⟩ now hP hv hw) (rleft_call ⟨k, g, s, l, p⟩ ⟨t, i, c⟩ now hP hv hw)
    (covers_call ⟨k, g, s, l, p⟩ ⟨t, i, c⟩ ⟨t', i', c'⟩) (rcovers_call ⟨k, g, s, l, p⟩ ⟨t, i, c⟩ ⟨t', i', c'⟩) (max_call ⟨k, g, s, l, p⟩ ⟨t, i, c⟩ ⟨t', i', c'⟩) (rmax_call ⟨k, g, s, l, p⟩ ⟨t, i, c⟩ ⟨t', i', c'⟩) w
end Go.Proofs.Ythpcjhihifhmgaa

/- block: what the law's plays answers to Decode. -/
import Derived.Test.YtoljalolfdnghaaDoorBkPlay
set_option linter.unusedVariables false
set_option linter.unusedSimpArgs false
namespace Go.Proofs.YtoljalolfdnghaaDoor
open Go Go.RowKit

theorem Is_num (n : Nat) (v : Value) (w : World) (h : Calls Tryd.prog 44 #[v] w fun e w' => e = .returned (.int .i64 (n : Int)) ∧ w' = w) :
    Calls Tryd.prog 26 #[v, .int .i64 (n : Int)] w fun e w' => e = .returned (.bool true) ∧ w' = w := by
  have := Is_of v n n w h
  rwa [decide_eq_true rfl] at this

set_option maxRecDepth 20000 in
set_option maxHeartbeats 3200000 in
theorem play2 (f : Nat) (b : List UInt8) (vL vB vZ : Value) (w : World) (ad : Nat → Addr) (hk : KnA w ad) (hL : ∃ a n c, vL = .slice a n c) (hB : Sl 0 w vB b) (hZ : ∃ a n c, vZ = .slice a n c) (hb : b.length ≤ 100000000) :
    Calls Tryd.prog 12 #[.agg #[.int .i64 2, .int .u64 (f : Int), vL, vB, vZ]] w fun e w' => e = .returned (.bool true) ∧ Up w w' := by
  obtain ⟨aL, nL, cL, rfl⟩ := hL
  obtain ⟨aZ, nZ, cZ, rfl⟩ := hZ
  obtain ⟨aB, cB, rfl⟩ := hB.slice
  obtain ⟨w0, hw0⟩ : ∃ w0, w.alloc (.cells #[.int .i64 2, .int .u64 (f : Int), .slice aL nL cL, .slice aB b.length cB, .slice aZ nZ cZ] 31) = w0 := ⟨_, rfl⟩
  have hu0 : Up w w0 := by rw [← hw0]; exact Up.alloc _ _
  have hc0 : w0.cell? ⟨w.heap.size, 1, none⟩ = some (.int .u64 (f : Int)) ∧ w0.cell? ⟨w.heap.size, 2, none⟩ = some (.slice aL nL cL) ∧ w0.cell? ⟨w.heap.size, 3, none⟩ = some (.slice aB b.length cB) ∧ w0.cell? ⟨w.heap.size, 4, none⟩ = some (.slice aZ nZ cZ) := by
    rw [← hw0]
    refine ⟨?_, ?_, ?_, ?_⟩ <;> (rw [cell_of_row _ _ _ _ _ _ (heap_alloc_new _ _)]; rfl)
  have hc00 : w0.cell? ⟨w.heap.size, 0, none⟩ = some (.int .i64 2) := by
    rw [← hw0, cell_of_row _ _ _ _ _ _ (heap_alloc_new _ _)]; rfl
  have hlt0 : w.heap.size < w0.heap.size := World.block_lt_of_cell? w0 _ hc0.1
  have HCell : Hid (∀ u, Up w0 u → u.cell? ⟨w.heap.size, 1, none⟩ = some (.int .u64 (f : Int)) ∧ u.cell? ⟨w.heap.size, 2, none⟩ = some (.slice aL nL cL) ∧ u.cell? ⟨w.heap.size, 3, none⟩ = some (.slice aB b.length cB) ∧ u.cell? ⟨w.heap.size, 4, none⟩ = some (.slice aZ nZ cZ)) := fun u hu => by
    rw [hu.cell (p := ⟨w.heap.size, 1, none⟩) hlt0, hu.cell (p := ⟨w.heap.size, 2, none⟩) hlt0, hu.cell (p := ⟨w.heap.size, 3, none⟩) hlt0, hu.cell (p := ⟨w.heap.size, 4, none⟩) hlt0]
    exact hc0
  have HK : Hid (KnA w0 ad ∧ Up w w0 ∧ Sl 0 w0 (.slice aB b.length cB) b) := ⟨hk.up hu0, hu0, hB.up hu0⟩
  clear hk hB hu0
  go_enter Tryd.func12, Tryd.ntmps12
  have q3 := (HCell.out (w0.alloc (.cells #[] 5)) (Up.alloc _ _)).2.2.1
  clear hc0 hlt0
  go_wp2_with (at_builtin; refine wpList_bytes_any _ rfl (.tmp 53) (.tmp 55) rfl w0.heap.size 0 _ _ [] b rfl rfl (own_built w0 [] (by simp)) (HK.out.2.2.up (Up.alloc _ _)) (by simp) (by simp; omega) ?_)
  intro v5 w5 o5 g5
  have u5 : Up w0 w5 := grown_up (Up.alloc w0 (.cells #[] 5)) g5 (fun x hx => by cases hx; exact Nat.le_refl _)
  obtain ⟨a5, c5, rfl⟩ := own_len o5
  have hdec := Decode_any w0.heap.size _ b w5 ad (HK.out.1.up u5).1.tb o5.sl (HK.out.1.up u5).1.gl
  clear hc00 q3 g5 o5 hw0
  go_wp2_with fail
  refine hdec.mono ?_
  rintro e w6 ⟨hT, u6⟩
  clear hdec
  have U6 : Up w0 w6 := u5.trans u6
  obtain ⟨q1, q2, q3, q4⟩ := HCell.out w6 U6
  have hrd := rDecode_any _ b w6 (HK.out.2.2.up U6)
  cases hd : decB b with
  | error er =>
    rw [hd] at hT hrd
    cases er with
    | short =>
      obtain rfl := hT
      go_wp2_with fail
      refine hrd.mono ?_
      rintro e w7 ⟨hT2, u7⟩
      obtain rfl := hT2
      clear hrd q1 q2 q3 q4 HCell hd
      have U7 : Up w0 w7 := U6.trans u7
      go_wp2_with fail
      refine (Is_num 2 _ w7 (Of_Short errTxt w7 ad (HK.out.1.up U7).2 errTxt_unlike)).mono ?_
      rintro e w8 ⟨rfl, e8⟩
      obtain rfl : w7 = w8 := e8.symm
      have hal := alike_any (.slice none 0 0) (.slice none 0 0) [] [] w7 (Recs.nil w7 0).rw (Recs.nil w7 0).rw (by simp) (by simp) (by simp) (by simp)
      rw [decide_eq_true rfl] at hal
      go_wp2_with fail
      refine hal.mono ?_
      rintro e w9 ⟨rfl, n, e9⟩
      have U9 : Up w w9 := by rw [e9]; exact (HK.out.2.1.trans U7).trans (up_drewN _ _)
      clear hal e9
      go_wp2
      go_ret
      exact ⟨rfl, U9⟩
    | form =>
      obtain rfl := hT
      go_wp2_with fail
      refine hrd.mono ?_
      rintro e w7 ⟨hT2, u7⟩
      obtain rfl := hT2
      clear hrd q1 q2 q3 q4 HCell hd
      have U7 : Up w0 w7 := U6.trans u7
      go_wp2_with fail
      refine (Is_num 3 _ w7 (Of_Form errTxt w7 ad (HK.out.1.up U7).2 errTxt_unlike)).mono ?_
      rintro e w8 ⟨rfl, e8⟩
      obtain rfl : w7 = w8 := e8.symm
      have hal := alike_any (.slice none 0 0) (.slice none 0 0) [] [] w7 (Recs.nil w7 0).rw (Recs.nil w7 0).rw (by simp) (by simp) (by simp) (by simp)
      rw [decide_eq_true rfl] at hal
      go_wp2_with fail
      refine hal.mono ?_
      rintro e w9 ⟨rfl, n, e9⟩
      have U9 : Up w w9 := by rw [e9]; exact (HK.out.2.1.trans U7).trans (up_drewN _ _)
      clear hal e9
      go_wp2
      go_ret
      exact ⟨rfl, U9⟩
    | sum =>
      obtain rfl := hT
      go_wp2_with fail
      refine hrd.mono ?_
      rintro e w7 ⟨hT2, u7⟩
      obtain rfl := hT2
      clear hrd q1 q2 q3 q4 HCell hd
      have U7 : Up w0 w7 := U6.trans u7
      go_wp2_with fail
      refine (Is_num 5 _ w7 (Of_Sum errTxt w7 ad (HK.out.1.up U7).2 errTxt_unlike)).mono ?_
      rintro e w8 ⟨rfl, e8⟩
      obtain rfl : w7 = w8 := e8.symm
      have hal := alike_any (.slice none 0 0) (.slice none 0 0) [] [] w7 (Recs.nil w7 0).rw (Recs.nil w7 0).rw (by simp) (by simp) (by simp) (by simp)
      rw [decide_eq_true rfl] at hal
      go_wp2_with fail
      refine hal.mono ?_
      rintro e w9 ⟨rfl, n, e9⟩
      have U9 : Up w w9 := by rw [e9]; exact (HK.out.2.1.trans U7).trans (up_drewN _ _)
      clear hal e9
      go_wp2
      go_ret
      exact ⟨rfl, U9⟩
  | ok x =>
    obtain ⟨n1, rs⟩ := x
    rw [hd] at hT hrd
    obtain ⟨v7, vs7, rfl, r7⟩ := hT
    have hcnt := (decB_count hd).2.1
    have hrows : ∀ r ∈ rs, r.length ≤ 140737488355328 := fun r hr => by have := (blk_dec hd).1.long r hr; omega
    obtain ⟨a7, c7, rfl⟩ := r7.slice
    go_wp2_with fail
    refine hrd.mono ?_
    rintro e w7 ⟨⟨v8, vs8, rfl, r8⟩, u7⟩
    clear hrd q1 q2 q3 q4 HCell hd
    have U7 : Up w0 w7 := U6.trans u7
    obtain ⟨a8, c8, rfl⟩ := r8.slice
    go_wp2_with fail
    refine (Is_num 0 _ w7 (Of_none w7)).mono ?_
    rintro e w8 ⟨rfl, e8⟩
    obtain rfl : w7 = w8 := e8.symm
    have hal := alike_any _ _ rs rs w7 (r7.rw.up u7) r8.rw (by omega) (by omega) hrows hrows
    rw [decide_eq_true rfl] at hal
    clear r7 r8 hcnt hrows
    go_wp2_with fail
    refine hal.mono ?_
    rintro e w9 ⟨rfl, n, e9⟩
    have U9 : Up w w9 := by rw [e9]; exact (HK.out.2.1.trans U7).trans (up_drewN _ _)
    clear hal e9
    go_wp2
    go_ret
    exact ⟨rfl, U9⟩
end Go.Proofs.YtoljalolfdnghaaDoor

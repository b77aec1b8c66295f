/- sat: the law's function right, walked: it answers true of every four numbers. -/
import Derived.Test.YtknanpnbpmmlgaaSatRight
import Derived.Deep.RegionHeld3
import Derived.Deep.DeepCutAuto
set_option linter.unusedVariables false
namespace Go.Proofs.Ytknanpnbpmmlgaa
open Go Go.RowKit

set_option maxRecDepth 20000 in
set_option maxHeartbeats 6400000 in
theorem right_walk (A B C D : Nat) (hR : Rt A B C D) (w : World) : Calls Try.prog 9 #[.agg #[V A, V B, V C, V D]] w fun e w' => e = .returned (.bool true) ∧ Up w w' := by
  obtain ⟨⟨a1, k1, k1'⟩, ⟨a2, k2, k2'⟩, ⟨a3, k3, k3'⟩, ⟨h4, l4, k4, k4'⟩, ⟨h5, l5, k5, k5'⟩, ⟨h6, l6, k6, k6'⟩, ⟨h7, l7, k7, k7'⟩, ⟨c8, k8, k8'⟩, ⟨h9, l9, k9, k9'⟩, ⟨n10, ok10, k10, k10'⟩, ⟨h11, l11, r11, k11, k11'⟩⟩ := hR
  go_enter Try.func9, Try.ntmps9
  go_wp2_with fail
  have hB : Ho w (w.alloc (.cells #[V A, V B, V C, V D] 27)) [(w.heap.size, 0, A), (w.heap.size, 1, B), (w.heap.size, 2, C), (w.heap.size, 3, D)] := by
    refine ⟨Up.alloc _ _, fun p hp => ?_⟩
    simp only [List.mem_cons, List.not_mem_nil, or_false] at hp
    rcases hp with rfl | rfl | rfl | rfl <;> (rw [cell_of_row _ _ _ _ _ _ (heap_alloc_new _ _)]; rfl)
  generalize w.alloc (.cells #[V A, V B, V C, V D] 27) = W1 at hB ⊢
  generalize w.heap.size = g1 at hB ⊢
  go_cut [51] (fun s51 wx => s51 = .bool false ∧ Ho w wx [(g1, 0, A), (g1, 1, B), (g1, 2, C), (g1, 3, D)])
  case first =>
    have sof : ∀ {u : World}, Ho w u [(g1, 0, A), (g1, 1, B), (g1, 2, C), (g1, 3, D)] → (u.cell? ⟨g1, 0, none⟩ = some (V A) ∧ u.cell? ⟨g1, 1, none⟩ = some (V B) ∧ u.cell? ⟨g1, 2, none⟩ = some (V C) ∧ u.cell? ⟨g1, 3, none⟩ = some (V D) ∧ Ho w u [(g1, 0, A), (g1, 1, B), (g1, 2, C), (g1, 3, D)]) := fun h => ⟨h.2 (g1, 0, A) (by simp), h.2 (g1, 1, B) (by simp), h.2 (g1, 2, C) (by simp), h.2 (g1, 3, D) (by simp), h⟩
    have hs := sof (hB.grow (Up.drew W1))
    go_region_held3 (fun u => u.cell? ⟨g1, 0, none⟩ = some (V A) ∧ u.cell? ⟨g1, 1, none⟩ = some (V B) ∧ u.cell? ⟨g1, 2, none⟩ = some (V C) ∧ u.cell? ⟨g1, 3, none⟩ = some (V D) ∧ Ho w u [(g1, 0, A), (g1, 1, B), (g1, 2, C), (g1, 3, D)]) (exact hs)
      (first
      | (go_at_call 16; refine (k1 _).mono ?_; rintro e u1 ⟨rfl, y1⟩; replace hs := sof (hs.2.2.2.2.grow y1))
      | (go_at_call 20; refine (k1' _).mono ?_; rintro e u2 ⟨rfl, y2⟩; replace hs := sof (hs.2.2.2.2.grow y2))
      | (go_at_call 18; refine (k2 _).mono ?_; rintro e u3 ⟨rfl, y3⟩; replace hs := sof (hs.2.2.2.2.grow y3))
      | (go_at_call 21; refine (k2' _).mono ?_; rintro e u4 ⟨rfl, y4⟩; replace hs := sof (hs.2.2.2.2.grow y4))
      | (go_at_call 17; refine (k3 _).mono ?_; rintro e u5 ⟨rfl, y5⟩; replace hs := sof (hs.2.2.2.2.grow y5))
      | (go_at_call 22; refine (k3' _).mono ?_; rintro e u6 ⟨rfl, y6⟩; replace hs := sof (hs.2.2.2.2.grow y6)))
    all_goals (go_wp2_with fail; go_meet; case rel => exact ⟨rfl, hs.2.2.2.2⟩)
  case rest =>
    obtain ⟨rfl, hB2⟩ := hcut
    clear hB k1 k1' k2 k2' k3 k3'
    go_upto_region 3 with fail
    go_cut [73] (fun s73 wx => s73 = .bool false ∧ Ho w wx [(g1, 0, A), (g1, 1, B), (g1, 2, C), (g1, 3, D)])
    case first =>
      have sof : ∀ {u : World}, Ho w u [(g1, 0, A), (g1, 1, B), (g1, 2, C), (g1, 3, D)] → (u.cell? ⟨g1, 0, none⟩ = some (V A) ∧ u.cell? ⟨g1, 1, none⟩ = some (V B) ∧ u.cell? ⟨g1, 2, none⟩ = some (V C) ∧ u.cell? ⟨g1, 3, none⟩ = some (V D) ∧ Ho w u [(g1, 0, A), (g1, 1, B), (g1, 2, C), (g1, 3, D)]) := fun h => ⟨h.2 (g1, 0, A) (by simp), h.2 (g1, 1, B) (by simp), h.2 (g1, 2, C) (by simp), h.2 (g1, 3, D) (by simp), h⟩
      have hs := sof (hB2.grow (Up.drew _))
      go_region_held3 (fun u => u.cell? ⟨g1, 0, none⟩ = some (V A) ∧ u.cell? ⟨g1, 1, none⟩ = some (V B) ∧ u.cell? ⟨g1, 2, none⟩ = some (V C) ∧ u.cell? ⟨g1, 3, none⟩ = some (V D) ∧ Ho w u [(g1, 0, A), (g1, 1, B), (g1, 2, C), (g1, 3, D)]) (exact hs)
        (first
        | (go_at_call 14; refine (k4 _).mono ?_; rintro e u1 ⟨rfl, y1⟩; replace hs := sof (hs.2.2.2.2.grow y1))
        | (go_at_call 24; refine (k4' _).mono ?_; rintro e u2 ⟨rfl, y2⟩; replace hs := sof (hs.2.2.2.2.grow y2))
        | (go_at_call 11; refine (k5 _).mono ?_; rintro e u3 ⟨rfl, y3⟩; replace hs := sof (hs.2.2.2.2.grow y3))
        | (go_at_call 25; refine (k5' _).mono ?_; rintro e u4 ⟨rfl, y4⟩; replace hs := sof (hs.2.2.2.2.grow y4))
        | (go_at_call 23; refine (wide_raw _ _ _).mono ?_; rintro e u5 ⟨rfl, y5⟩; replace hs := sof (hs.2.2.2.2.grow y5)))
      all_goals (go_wp2_with fail; go_meet; case rel => exact ⟨rfl, hs.2.2.2.2⟩)
    case rest =>
      obtain ⟨rfl, hB3⟩ := hcut
      clear hB2 k4 k4' k5 k5'
      obtain ⟨c0, c1, c2, c3⟩ : (wc.cell? ⟨g1, 0, none⟩ = some (V A)) ∧ (wc.cell? ⟨g1, 1, none⟩ = some (V B)) ∧ (wc.cell? ⟨g1, 2, none⟩ = some (V C)) ∧ (wc.cell? ⟨g1, 3, none⟩ = some (V D)) := ⟨hB3.2 (g1, 0, A) (by simp), hB3.2 (g1, 1, B) (by simp), hB3.2 (g1, 2, C) (by simp), hB3.2 (g1, 3, D) (by simp)⟩
      go_upto_region 6 with fail
      have hB4 := hB3.new A B 45
      clear hB3 c0 c1 c2 c3
      generalize wc.alloc (.cells #[V A, V B] 45) = W4 at hB4 ⊢
      generalize wc.heap.size = g3 at hB4 ⊢
      have c2 := hB4.2 (g1, 2, C) (by simp)
      have c3 := hB4.2 (g1, 3, D) (by simp)
      simp only at c2 c3
      go_upto_region 7 with fail
      have hB5 := hB4.new C D 45
      clear hB4 c2 c3
      generalize W4.alloc (.cells #[V C, V D] 45) = W5 at hB5 ⊢
      generalize W4.heap.size = g4 at hB5 ⊢
      have c0 := hB5.2 (g3, 0, A) (by simp)
      have c1 := hB5.2 (g3, 1, B) (by simp)
      simp only at c0 c1
      go_wp2_with fail
      go_at_call 23
      refine (wide_raw A B _).mono ?_
      rintro e u1 ⟨rfl, y1⟩
      have hB6 := (hB5.grow y1).new A B 30
      clear hB5 y1 c0 c1
      go_upto_region 8 with fail
      generalize u1.alloc (.cells #[V A, V B] 30) = W6 at hB6 ⊢
      generalize u1.heap.size = g5 at hB6 ⊢
      have c0 := hB6.2 (g4, 0, C) (by simp)
      have c1 := hB6.2 (g4, 1, D) (by simp)
      simp only at c0 c1
      go_wp2_with fail
      go_at_call 23
      refine (wide_raw C D _).mono ?_
      rintro e u2 ⟨rfl, y2⟩
      have hB7 := (hB6.grow y2).new C D 30
      clear hB6 y2 c0 c1
      go_upto_region 9 with fail
      generalize u2.alloc (.cells #[V C, V D] 30) = W7 at hB7 ⊢
      generalize u2.heap.size = g6 at hB7 ⊢
      go_cut [124] (fun s124 wx => s124 = .bool false ∧ Ho w wx [(g6, 0, C), (g6, 1, D), (g5, 0, A), (g5, 1, B), (g4, 0, C), (g4, 1, D), (g3, 0, A), (g3, 1, B), (g1, 0, A), (g1, 1, B), (g1, 2, C), (g1, 3, D)])
      case first =>
        have sof : ∀ {u : World}, Ho w u [(g6, 0, C), (g6, 1, D), (g5, 0, A), (g5, 1, B), (g4, 0, C), (g4, 1, D), (g3, 0, A), (g3, 1, B), (g1, 0, A), (g1, 1, B), (g1, 2, C), (g1, 3, D)] → (u.cell? ⟨g3, 0, none⟩ = some (V A) ∧ u.cell? ⟨g3, 1, none⟩ = some (V B) ∧ u.cell? ⟨g4, 0, none⟩ = some (V C) ∧ u.cell? ⟨g4, 1, none⟩ = some (V D) ∧ u.cell? ⟨g5, 0, none⟩ = some (V A) ∧ u.cell? ⟨g5, 1, none⟩ = some (V B) ∧ u.cell? ⟨g6, 0, none⟩ = some (V C) ∧ u.cell? ⟨g6, 1, none⟩ = some (V D) ∧ Ho w u [(g6, 0, C), (g6, 1, D), (g5, 0, A), (g5, 1, B), (g4, 0, C), (g4, 1, D), (g3, 0, A), (g3, 1, B), (g1, 0, A), (g1, 1, B), (g1, 2, C), (g1, 3, D)]) := fun h => ⟨h.2 (g3, 0, A) (by simp), h.2 (g3, 1, B) (by simp), h.2 (g4, 0, C) (by simp), h.2 (g4, 1, D) (by simp), h.2 (g5, 0, A) (by simp), h.2 (g5, 1, B) (by simp), h.2 (g6, 0, C) (by simp), h.2 (g6, 1, D) (by simp), h⟩
        have hs := sof (hB7.grow (Up.drew _))
        go_region_held3 (fun u => u.cell? ⟨g3, 0, none⟩ = some (V A) ∧ u.cell? ⟨g3, 1, none⟩ = some (V B) ∧ u.cell? ⟨g4, 0, none⟩ = some (V C) ∧ u.cell? ⟨g4, 1, none⟩ = some (V D) ∧ u.cell? ⟨g5, 0, none⟩ = some (V A) ∧ u.cell? ⟨g5, 1, none⟩ = some (V B) ∧ u.cell? ⟨g6, 0, none⟩ = some (V C) ∧ u.cell? ⟨g6, 1, none⟩ = some (V D) ∧ Ho w u [(g6, 0, C), (g6, 1, D), (g5, 0, A), (g5, 1, B), (g4, 0, C), (g4, 1, D), (g3, 0, A), (g3, 1, B), (g1, 0, A), (g1, 1, B), (g1, 2, C), (g1, 3, D)]) (exact hs)
          (first
          | (go_at_call 13; refine (k6 _).mono ?_; rintro e u1 ⟨rfl, y1⟩; replace hs := sof (hs.2.2.2.2.2.2.2.2.grow y1))
          | (go_at_call 26; refine (k6' _).mono ?_; rintro e u2 ⟨rfl, y2⟩; replace hs := sof (hs.2.2.2.2.2.2.2.2.grow y2))
          | (go_at_call 23; refine (wide_raw _ _ _).mono ?_; rintro e u3 ⟨rfl, y3⟩; replace hs := sof (hs.2.2.2.2.2.2.2.2.grow y3))
          | (go_at_call_of 15 [Value.agg #[V C, V D]]; refine (k7 _).mono ?_; rintro e u4 ⟨rfl, y4⟩; replace hs := sof (hs.2.2.2.2.2.2.2.2.grow y4))
          | (go_at_call_of 27 [Value.agg #[V C, V D]]; refine (k7' _).mono ?_; rintro e u5 ⟨rfl, y5⟩; replace hs := sof (hs.2.2.2.2.2.2.2.2.grow y5))
          | (go_at_call 19; refine (k8 _).mono ?_; rintro e u6 ⟨rfl, y6⟩; replace hs := sof (hs.2.2.2.2.2.2.2.2.grow y6))
          | (go_at_call 28; refine (k8' _).mono ?_; rintro e u7 ⟨rfl, y7⟩; replace hs := sof (hs.2.2.2.2.2.2.2.2.grow y7))
          | (go_at_call_of 15 [Value.agg #[V A, V B]]; refine (k9 _).mono ?_; rintro e u8 ⟨rfl, y8⟩; replace hs := sof (hs.2.2.2.2.2.2.2.2.grow y8))
          | (go_at_call_of 27 [Value.agg #[V A, V B]]; refine (k9' _).mono ?_; rintro e u9 ⟨rfl, y9⟩; replace hs := sof (hs.2.2.2.2.2.2.2.2.grow y9)))
        all_goals (go_wp2_with fail; go_meet; case rel => exact ⟨rfl, hs.2.2.2.2.2.2.2.2⟩)
      case rest =>
        obtain ⟨rfl, hB8⟩ := hcut
        clear hB7 k6 k6' k7 k7' k8 k8' k9 k9'
        obtain ⟨a0, a1⟩ : (wc.cell? ⟨g5, 0, none⟩ = some (V A)) ∧ (wc.cell? ⟨g5, 1, none⟩ = some (V B)) := ⟨hB8.2 (g5, 0, A) (by simp), hB8.2 (g5, 1, B) (by simp)⟩
        go_wp2_with fail
        go_at_call 12
        refine (k10 _).mono ?_
        rintro e u1 ⟨rfl, y1⟩
        have hB9 := hB8.grow y1
        clear hB8 y1 a0 a1
        obtain ⟨a0, a1⟩ : (u1.cell? ⟨g3, 0, none⟩ = some (V A)) ∧ (u1.cell? ⟨g3, 1, none⟩ = some (V B)) := ⟨hB9.2 (g3, 0, A) (by simp), hB9.2 (g3, 1, B) (by simp)⟩
        go_wp2_with fail
        go_at_call 29
        refine (k10' _).mono ?_
        rintro e u2 ⟨rfl, y2⟩
        have hBA := hB9.grow y2
        clear hB9 y2 a0 a1
        obtain ⟨a0, a1, a2⟩ : (u2.cell? ⟨g5, 0, none⟩ = some (V A)) ∧ (u2.cell? ⟨g5, 1, none⟩ = some (V B)) ∧ (u2.cell? ⟨g1, 2, none⟩ = some (V C)) := ⟨hBA.2 (g5, 0, A) (by simp), hBA.2 (g5, 1, B) (by simp), hBA.2 (g1, 2, C) (by simp)⟩
        go_wp2_with fail
        go_at_call 10
        refine (k11 _).mono ?_
        rintro e u3 ⟨rfl, y3⟩
        have hBB := (hBA.grow y3).new h11 l11 30
        clear hBA y3 a0 a1 a2 k10 k10' k11
        go_upto_region 16 with fail
        generalize u3.alloc (.cells #[V h11, V l11] 30) = W11 at hBB ⊢
        generalize u3.heap.size = g11 at hBB ⊢
        obtain ⟨a0, a1, a2⟩ : (W11.cell? ⟨g3, 0, none⟩ = some (V A)) ∧ (W11.cell? ⟨g3, 1, none⟩ = some (V B)) ∧ (W11.cell? ⟨g1, 2, none⟩ = some (V C)) := ⟨hBB.2 (g3, 0, A) (by simp), hBB.2 (g3, 1, B) (by simp), hBB.2 (g1, 2, C) (by simp)⟩
        go_wp2_with fail
        go_at_call 30
        refine (k11' _).mono ?_
        rintro e u4 ⟨rfl, y4⟩
        have hBC := (hBB.grow y4).new h11 l11 45
        clear hBB y4 a0 a1 a2 k11'
        go_upto_region 17 with fail
        generalize u4.alloc (.cells #[V h11, V l11] 45) = W13 at hBC ⊢
        generalize u4.heap.size = g13 at hBC ⊢
        have sof : ∀ {u : World}, Ho w u [(g13, 0, h11), (g13, 1, l11), (g11, 0, h11), (g11, 1, l11), (g6, 0, C), (g6, 1, D), (g5, 0, A), (g5, 1, B), (g4, 0, C), (g4, 1, D), (g3, 0, A), (g3, 1, B), (g1, 0, A), (g1, 1, B), (g1, 2, C), (g1, 3, D)] → (u.cell? ⟨g11, 0, none⟩ = some (V h11) ∧ u.cell? ⟨g11, 1, none⟩ = some (V l11) ∧ u.cell? ⟨g13, 0, none⟩ = some (V h11) ∧ u.cell? ⟨g13, 1, none⟩ = some (V l11) ∧ Ho w u [(g13, 0, h11), (g13, 1, l11), (g11, 0, h11), (g11, 1, l11), (g6, 0, C), (g6, 1, D), (g5, 0, A), (g5, 1, B), (g4, 0, C), (g4, 1, D), (g3, 0, A), (g3, 1, B), (g1, 0, A), (g1, 1, B), (g1, 2, C), (g1, 3, D)]) := fun h => ⟨h.2 (g11, 0, h11) (by simp), h.2 (g11, 1, l11) (by simp), h.2 (g13, 0, h11) (by simp), h.2 (g13, 1, l11) (by simp), h⟩
        have hs := sof (hBC.grow (Up.drew _))
        clear hBC
        go_region_held3 (fun u => u.cell? ⟨g11, 0, none⟩ = some (V h11) ∧ u.cell? ⟨g11, 1, none⟩ = some (V l11) ∧ u.cell? ⟨g13, 0, none⟩ = some (V h11) ∧ u.cell? ⟨g13, 1, none⟩ = some (V l11) ∧ Ho w u [(g13, 0, h11), (g13, 1, l11), (g11, 0, h11), (g11, 1, l11), (g6, 0, C), (g6, 1, D), (g5, 0, A), (g5, 1, B), (g4, 0, C), (g4, 1, D), (g3, 0, A), (g3, 1, B), (g1, 0, A), (g1, 1, B), (g1, 2, C), (g1, 3, D)]) (exact hs)
          (first
            | (go_at_call 23; refine (wide_raw _ _ _).mono ?_; rintro e u1 ⟨rfl, y1⟩; replace hs := sof (hs.2.2.2.2.grow y1)))
        all_goals (go_wp2; go_ret; exact ⟨rfl, hs.2.2.2.2.1⟩)
end Go.Proofs.Ytknanpnbpmmlgaa

/- Merged: StLives0, StLives. -/
import Derived.Test.YtdddfapelencoaaDoorLkK
import Derived.Test.YtdddfapelencoaaDoorStEqW
set_option linter.unusedVariables false
set_option linter.unusedSimpArgs false
namespace Go.Proofs.YtdddfapelencoaaDoor
open Go Go.RowKit

abbrev K1 : ByteArray := ⟨#[107]⟩
abbrev P1 : Pol := ⟨1, 10, 0, 0, 0⟩
abbrev recDef : RecV := ⟨1, 5, [107], 1, 10, 0, 0, 0, 0, 0, 0⟩
abbrev recCeil (t : Nat) : RecV := ⟨3, 3, [107], 0, 0, 0, 0, 0, t, 0, 0⟩
abbrev recGone : RecV := ⟨2, 0, [107], 0, 0, 0, 0, 0, 0, 0, 0⟩
abbrev st1 : StV := ⟨2, 5, [(K1, P1, ⟨30, 0, 0⟩)]⟩
theorem get_one (v : Pol × Lev) : getL K1 [(K1, v)] = some v := by simp [getL, kl_irr]
theorem put_one (u v : Pol × Lev) : putL K1 v [(K1, u)] = [(K1, v)] := by simp [putL, lo, hi, kl_irr]
theorem del_one (u : Pol × Lev) : delL K1 [(K1, u)] = [] := by simp [delL, lo, hi, kl_irr]
theorem chg_def : chg [] recDef = some [(K1, P1, Lev0)] := by
  unfold chg
  rw [if_pos (by decide)]
  rfl
theorem chg_ceil (lv : Lev) (t : Nat) (o : Bool) (h : (pFits P1 ⟨t, 0, 0⟩ && pCov P1 ⟨t, 0, 0⟩ lv) = o) : chg [(K1, P1, lv)] (recCeil t) = if o then some [(K1, P1, ⟨t, 0, 0⟩)] else none := by
  unfold chg
  rw [if_neg (show ¬ (3 : Int) = 1 by decide), if_neg (show ¬ (3 : Int) = 2 by decide), show kb (recCeil t) = K1 from rfl, get_one]
  show (if (pFits P1 ⟨t, 0, 0⟩ && pCov P1 ⟨t, 0, 0⟩ lv) = true then some (putL K1 (P1, ⟨t, 0, 0⟩) [(K1, P1, lv)]) else none) = _
  rw [h, put_one]
theorem chg_gone (v : Pol × Lev) : chg [(K1, v)] recGone = some [] := by
  unfold chg
  rw [if_neg (by decide), if_pos (by decide), show kb recGone = K1 from rfl, get_one, del_one]
  rfl
theorem step_def : stepS ⟨0, 0, []⟩ 1 recDef = .ok ⟨1, 5, [(K1, P1, Lev0)]⟩ := by
  unfold stepS
  rw [if_neg (by decide), if_neg (by decide), chg_def]
  rfl
theorem step_ceil : stepS ⟨1, 5, [(K1, P1, Lev0)]⟩ 2 (recCeil 30) = .ok st1 := by
  unfold stepS
  rw [if_neg (by decide), if_neg (by decide), chg_ceil Lev0 30 true (by decide)]
  rfl
theorem step_low : stepS st1 3 (recCeil 20) = .error .log := by
  unfold stepS
  rw [if_neg (by decide), if_neg (by decide), chg_ceil ⟨30, 0, 0⟩ 20 false (by decide)]
  rfl
theorem step_gone : stepS st1 3 recGone = .ok ⟨3, 5, []⟩ := by
  unfold stepS
  rw [if_neg (by decide), if_neg (by decide), chg_gone]
  rfl
theorem ok0 : okS ⟨0, 0, []⟩ = true := by decide
theorem kl_k1 : kl noKey K1 = true := (kl_no K1).2 (by decide)
theorem ok1 : okS st1 = true := by
  unfold okS
  simp only [okFrom, kl_k1]
  decide
theorem replay_lives : replayS ⟨0, 0, []⟩ 1 [recDef, recCeil 30] = .ok st1 := by
  unfold replayS
  rw [ok0]
  rw [if_pos (by decide), if_neg (by decide)]
  unfold runS
  rw [step_def]
  show runS ⟨1, 5, [(K1, P1, Lev0)]⟩ 2 [recCeil 30] = _
  rw [run_one, step_ceil]
theorem apply_low : applyS st1 3 (recCeil 20) = .error .log := by unfold applyS; rw [ok1, if_pos rfl, step_low]
theorem apply_gone : applyS st1 3 recGone = .ok ⟨3, 5, []⟩ := by unfold applyS; rw [ok1, if_pos rfl, step_gone]

theorem flow_any (w : World) : Calls Tryd.prog 21 #[] w fun e w' => e = .returned (.agg #[.int .i64 1, V 10, Z, Z, Z]) ∧ Up w w' := by
  go_enter Tryd.func21, Tryd.ntmps21
  go_wp2
  exact bodyPost_ret (v := .agg #[.int .i64 1, V 10, Z, Z, Z]) (by simp [results, Tryd.results21, go_sem]) rfl ⟨rfl, Up.alloc _ _⟩
theorem ceiling_any (t : Nat) (w : World) : Calls Tryd.prog 20 #[V t] w fun e w' => e = .returned (RV (recCeil t)) ∧ Up w w' := by
  go_enter Tryd.func20, Tryd.ntmps20
  go_wp2
  exact bodyPost_ret (v := RV (recCeil t)) (by simp [results, Tryd.results20, go_sem]) rfl ⟨rfl, Up.alloc _ _⟩
theorem gone_any (w : World) : Calls Tryd.prog 22 #[] w fun e w' => e = .returned (RV recGone) ∧ Up w w' := by
  go_enter Tryd.func22, Tryd.ntmps22
  go_wp2
  exact bodyPost_ret (v := RV recGone) (by simp [results, Tryd.results22, go_sem]) rfl ⟨rfl, Up.alloc _ _⟩
theorem Box.set11 {w : World} {k : Nat} {a0 a1 a2 a3 a4 a5 a6 a7 a8 a9 a10 : Value} (h : Box w k #[a0, a1, a2, a3, a4, a5, a6, a7, a8, a9, a10]) (v0 v1 v2 v3 v4 v5 v6 v7 v8 v9 v10 : Value) : Box (((((((((((w.setCell ⟨k, 0, none⟩ v0).setCell ⟨k, 1, none⟩ v1).setCell ⟨k, 2, none⟩ v2).setCell ⟨k, 3, none⟩ v3).setCell ⟨k, 4, none⟩ v4).setCell ⟨k, 5, none⟩ v5).setCell ⟨k, 6, none⟩ v6).setCell ⟨k, 7, none⟩ v7).setCell ⟨k, 8, none⟩ v8).setCell ⟨k, 9, none⟩ v9).setCell ⟨k, 10, none⟩ v10) k #[v0, v1, v2, v3, v4, v5, v6, v7, v8, v9, v10] := by
  have h0 : Box (w.setCell ⟨k, 0, none⟩ v0) k #[v0, a1, a2, a3, a4, a5, a6, a7, a8, a9, a10] := h.set 0 v0
  have h1 : Box ((w.setCell ⟨k, 0, none⟩ v0).setCell ⟨k, 1, none⟩ v1) k #[v0, v1, a2, a3, a4, a5, a6, a7, a8, a9, a10] := h0.set 1 v1
  have h2 : Box (((w.setCell ⟨k, 0, none⟩ v0).setCell ⟨k, 1, none⟩ v1).setCell ⟨k, 2, none⟩ v2) k #[v0, v1, v2, a3, a4, a5, a6, a7, a8, a9, a10] := h1.set 2 v2
  have h3 : Box ((((w.setCell ⟨k, 0, none⟩ v0).setCell ⟨k, 1, none⟩ v1).setCell ⟨k, 2, none⟩ v2).setCell ⟨k, 3, none⟩ v3) k #[v0, v1, v2, v3, a4, a5, a6, a7, a8, a9, a10] := h2.set 3 v3
  have h4 : Box (((((w.setCell ⟨k, 0, none⟩ v0).setCell ⟨k, 1, none⟩ v1).setCell ⟨k, 2, none⟩ v2).setCell ⟨k, 3, none⟩ v3).setCell ⟨k, 4, none⟩ v4) k #[v0, v1, v2, v3, v4, a5, a6, a7, a8, a9, a10] := h3.set 4 v4
  have h5 : Box ((((((w.setCell ⟨k, 0, none⟩ v0).setCell ⟨k, 1, none⟩ v1).setCell ⟨k, 2, none⟩ v2).setCell ⟨k, 3, none⟩ v3).setCell ⟨k, 4, none⟩ v4).setCell ⟨k, 5, none⟩ v5) k #[v0, v1, v2, v3, v4, v5, a6, a7, a8, a9, a10] := h4.set 5 v5
  have h6 : Box (((((((w.setCell ⟨k, 0, none⟩ v0).setCell ⟨k, 1, none⟩ v1).setCell ⟨k, 2, none⟩ v2).setCell ⟨k, 3, none⟩ v3).setCell ⟨k, 4, none⟩ v4).setCell ⟨k, 5, none⟩ v5).setCell ⟨k, 6, none⟩ v6) k #[v0, v1, v2, v3, v4, v5, v6, a7, a8, a9, a10] := h5.set 6 v6
  have h7 : Box ((((((((w.setCell ⟨k, 0, none⟩ v0).setCell ⟨k, 1, none⟩ v1).setCell ⟨k, 2, none⟩ v2).setCell ⟨k, 3, none⟩ v3).setCell ⟨k, 4, none⟩ v4).setCell ⟨k, 5, none⟩ v5).setCell ⟨k, 6, none⟩ v6).setCell ⟨k, 7, none⟩ v7) k #[v0, v1, v2, v3, v4, v5, v6, v7, a8, a9, a10] := h6.set 7 v7
  have h8 : Box (((((((((w.setCell ⟨k, 0, none⟩ v0).setCell ⟨k, 1, none⟩ v1).setCell ⟨k, 2, none⟩ v2).setCell ⟨k, 3, none⟩ v3).setCell ⟨k, 4, none⟩ v4).setCell ⟨k, 5, none⟩ v5).setCell ⟨k, 6, none⟩ v6).setCell ⟨k, 7, none⟩ v7).setCell ⟨k, 8, none⟩ v8) k #[v0, v1, v2, v3, v4, v5, v6, v7, v8, a9, a10] := h7.set 8 v8
  have h9 : Box ((((((((((w.setCell ⟨k, 0, none⟩ v0).setCell ⟨k, 1, none⟩ v1).setCell ⟨k, 2, none⟩ v2).setCell ⟨k, 3, none⟩ v3).setCell ⟨k, 4, none⟩ v4).setCell ⟨k, 5, none⟩ v5).setCell ⟨k, 6, none⟩ v6).setCell ⟨k, 7, none⟩ v7).setCell ⟨k, 8, none⟩ v8).setCell ⟨k, 9, none⟩ v9) k #[v0, v1, v2, v3, v4, v5, v6, v7, v8, v9, a10] := h8.set 9 v9
  have h10 : Box (((((((((((w.setCell ⟨k, 0, none⟩ v0).setCell ⟨k, 1, none⟩ v1).setCell ⟨k, 2, none⟩ v2).setCell ⟨k, 3, none⟩ v3).setCell ⟨k, 4, none⟩ v4).setCell ⟨k, 5, none⟩ v5).setCell ⟨k, 6, none⟩ v6).setCell ⟨k, 7, none⟩ v7).setCell ⟨k, 8, none⟩ v8).setCell ⟨k, 9, none⟩ v9).setCell ⟨k, 10, none⟩ v10) k #[v0, v1, v2, v3, v4, v5, v6, v7, v8, v9, v10] := h9.set 10 v10
  exact h10
theorem Up.set11 {w w' : World} {k : Nat} (h : Up w w') (hk : w.heap.size ≤ k) (v0 v1 v2 v3 v4 v5 v6 v7 v8 v9 v10 : Value) : Up w (((((((((((w'.setCell ⟨k, 0, none⟩ v0).setCell ⟨k, 1, none⟩ v1).setCell ⟨k, 2, none⟩ v2).setCell ⟨k, 3, none⟩ v3).setCell ⟨k, 4, none⟩ v4).setCell ⟨k, 5, none⟩ v5).setCell ⟨k, 6, none⟩ v6).setCell ⟨k, 7, none⟩ v7).setCell ⟨k, 8, none⟩ v8).setCell ⟨k, 9, none⟩ v9).setCell ⟨k, 10, none⟩ v10) := (((((((((((h.setCell hk v0).setCell hk v1).setCell hk v2).setCell hk v3).setCell hk v4).setCell hk v5).setCell hk v6).setCell hk v7).setCell hk v8).setCell hk v9).setCell hk v10)
theorem define_any (w : World) : Calls Tryd.prog 19 #[] w fun e w' => e = .returned (RV recDef) ∧ Up w w' := by
  have HF : Hid (∀ u, Calls Tryd.prog 21 #[] u fun e w' => e = .returned (.agg #[.int .i64 1, V 10, Z, Z, Z]) ∧ Up u w') := flow_any
  have b0 : Box (w.alloc (.cells #[.int .i64 0, Z, .string ⟨#[]⟩, .int .i64 0, Z, Z, Z, Z, Z, Z, Z] 39)) w.heap.size #[.int .i64 0, Z, .string ⟨#[]⟩, .int .i64 0, Z, Z, Z, Z, Z, Z, Z] := Box.new _ _ _
  have u0 : Up w (w.alloc (.cells #[.int .i64 0, Z, .string ⟨#[]⟩, .int .i64 0, Z, Z, Z, Z, Z, Z, Z] 39)) := Up.alloc _ _
  obtain ⟨B, hB⟩ : ∃ B, w.heap.size = B := ⟨_, rfl⟩
  have HB : Hid (w.heap.size = B) := hB
  rw [hB] at b0
  go_enter Tryd.func19, Tryd.ntmps19
  go_upto_region 1 with fail
  clear hB
  generalize w.alloc (.cells #[.int .i64 0, Z, .string ⟨#[]⟩, .int .i64 0, Z, Z, Z, Z, Z, Z, Z] 39) = w0 at *
  go_wp2_with fail
  refine (HF.out _).mono ?_
  rintro e w1 ⟨rfl, u1⟩
  replace b0 := b0.up u1
  have U1 := u0.trans u1
  clear u0 u1 HF
  obtain ⟨c0, c1, c2, c3, c4, c5, c6, c7, c8, c9, c10⟩ := b0.c11
  have f := fun i => b0.frozen i
  have f0 := f 0
  have f1 := f 1
  have f2 := f 2
  have f3 := f 3
  have f4 := f 4
  have f5 := f 5
  have f6 := f 6
  have f7 := f 7
  have f8 := f 8
  have f9 := f 9
  have f10 := f 10
  have HB0 : Hid (Box w1 B #[.int .i64 0, Z, .string ⟨#[]⟩, .int .i64 0, Z, Z, Z, Z, Z, Z, Z] ∧ Up w w1) := ⟨b0, U1⟩
  clear f b0 U1
  go_wp2
  have bR := Box.set11 HB0.out.1 (.int .i64 1) (V 5) (.string K1) (.int .i64 1) (V 10) Z Z Z Z Z Z
  have UR := Up.set11 HB0.out.2 (by have := HB.out; omega : w.heap.size ≤ B) (.int .i64 1) (V 5) (.string K1) (.int .i64 1) (V 10) Z Z Z Z Z Z
  generalize World.setCell (World.setCell (World.setCell _ _ _) _ _) _ _ = w6 at bR UR ⊢
  obtain ⟨g0, g1, g2, g3, g4, g5, g6, g7, g8, g9, g10⟩ := bR.c11
  exact bodyPost_ret (v := RV recDef) (by simp [results, Tryd.results19, go_sem, g0, g1, g2, g3, g4, g5, g6, g7, g8, g9, g10]) rfl ⟨rfl, UR⟩
end Go.Proofs.YtdddfapelencoaaDoor

set_option linter.unusedVariables false
set_option linter.unusedSimpArgs false
namespace Go.Proofs.YtdddfapelencoaaDoor
open Go Go.RowKit

theorem two_recs (w : World) : SlR (w.alloc (.cells #[.int .i64 1, .int .u64 5, .string ⟨#[107]⟩, .int .i64 1, .int .u64 10, .int .u64 0, .int .u64 0, .int .u64 0, .int .u64 0, .int .u64 0, .int .u64 0, .int .i64 3, .int .u64 3, .string ⟨#[107]⟩, .int .i64 0, .int .u64 0, .int .u64 0, .int .u64 0, .int .u64 0, .int .u64 30, .int .u64 0, .int .u64 0] 39)) (.slice (some ⟨w.heap.size, 0, none⟩) 2 2) [recDef, recCeil 30] := by
  refine ⟨some ⟨w.heap.size, 0, none⟩, 2, rfl, Nat.le_refl _, (by intro e; cases e), fun _ => ⟨_, _, rfl, fun i hi => ?_⟩⟩
  have hc := fun j => cell_of_row _ _ j _ _ (0, 0) (heap_alloc_new w (.cells #[.int .i64 1, .int .u64 5, .string ⟨#[107]⟩, .int .i64 1, .int .u64 10, .int .u64 0, .int .u64 0, .int .u64 0, .int .u64 0, .int .u64 0, .int .u64 0, .int .i64 3, .int .u64 3, .string ⟨#[107]⟩, .int .i64 0, .int .u64 0, .int .u64 0, .int .u64 0, .int .u64 0, .int .u64 30, .int .u64 0, .int .u64 0] 39))
  match i, hi with
  | 0, _ => exact ⟨hc 0, hc 1, hc 2, hc 3, hc 4, hc 5, hc 6, hc 7, hc 8, hc 9, hc 10⟩
  | 1, _ => exact ⟨hc 11, hc 12, hc 13, hc 14, hc 15, hc 16, hc 17, hc 18, hc 19, hc 20, hc 21⟩

/-- What holds while lives looks at its state. -/
structure Sl2 (b1 g o c3 : Nat) (w u : World) : Prop where
  box : Box u b1 #[.int .u64 2, .int .u64 5, .slice (some ⟨g, o, none⟩) 1 c3]
  ent : EntAt u g o (K1, P1, ⟨30, 0, 0⟩)
  sl : SlE u (.slice (some ⟨g, o, none⟩) 1 c3) st1.keys
  all : Up w u
theorem Sl2.lt {b1 g o c3 : Nat} {w u : World} (h : Sl2 b1 g o c3 w u) : g < u.heap.size := World.block_lt_of_cell? u _ h.ent.1
theorem Sl2.kept {b1 g o c3 b2 : Nat} {w u u' : World} (h : Sl2 b1 g o c3 w u) (t : Touch u u' [b2]) (h1 : b1 ≠ b2) (h2 : g ≠ b2) (h3 : w.heap.size ≤ b2) : Sl2 b1 g o c3 w u' := by
  have hb : g < u.heap.size → u'.heap[g]? = u.heap[g]? := fun hl => t.block g hl (by simpa using h2)
  have k : ∀ j v, u.cell? ⟨g, j, none⟩ = some v → u'.cell? ⟨g, j, none⟩ = some v := fun j v e => by rw [World.cell?_of_block (hb (World.block_lt_of_cell? u _ e))]; exact e
  refine ⟨Touch.box h.box t (by simpa using h1), ?_, ?_, Touch.up (S := [b2]) ((Touch.of_up h.all _).trans t (fun j hj => .inl hj)) (fun j hj => by simp at hj; omega)⟩
  · obtain ⟨c0, c1, c2, c3, c4, c5, c6, c7, c8⟩ := h.ent
    exact ⟨k _ _ c0, k _ _ c1, k _ _ c2, k _ _ c3, k _ _ c4, k _ _ c5, k _ _ c6, k _ _ c7, k _ _ c8⟩
  · obtain ⟨ao, cap, e, hc, hn, hx⟩ := h.sl
    obtain ⟨b, o', rfl, ha⟩ := hx (by simp)
    simp only [Value.slice.injEq, Option.some.injEq, Addr.mk.injEq] at e
    obtain ⟨⟨rfl, rfl, _⟩, _, rfl⟩ := e
    exact ⟨_, c3, rfl, hc, (by intro e; cases e), fun _ => ⟨g, o, rfl, ha.block hb⟩⟩
theorem Sl2.up {b1 g o c3 : Nat} {w u u' : World} (h : Sl2 b1 g o c3 w u) (k : Up u u') : Sl2 b1 g o c3 w u' := ⟨h.box.up k, h.ent.up k, h.sl.up k, h.all.trans k⟩

set_option maxRecDepth 20000 in
set_option maxHeartbeats 6400000 in
theorem lives_any (w : World) (ad : Nat → Addr) (hk : ErrSet stErrs errTxt w ad) : Calls Tryd.prog 6 #[] w fun e w' => e = .returned (.bool true) ∧ Up w w' := by
  have HK : Hid (ErrSet stErrs errTxt w ad) := hk
  have HDEF : Hid (∀ u, Calls Tryd.prog 19 #[] u fun e w' => e = .returned (RV recDef) ∧ Up u w') := define_any
  have HCE : Hid (∀ t u, Calls Tryd.prog 20 #[V t] u fun e w' => e = .returned (RV (recCeil t)) ∧ Up u w') := ceiling_any
  have HGO : Hid (∀ u, Calls Tryd.prog 22 #[] u fun e w' => e = .returned (RV recGone) ∧ Up u w') := gone_any
  have HFL : Hid (∀ u, Calls Tryd.prog 21 #[] u fun e w' => e = .returned (.agg #[.int .i64 1, V 10, Z, Z, Z]) ∧ Up u w') := flow_any
  have HRP : Hid (∀ u, Up w u → Calls Tryd.prog 18 #[.agg #[.int .u64 0, .int .u64 0, .slice none 0 0], .int .u64 1, .slice (some ⟨u.heap.size, 0, none⟩) 2 2] (u.alloc (.cells #[.int .i64 1, .int .u64 5, .string ⟨#[107]⟩, .int .i64 1, .int .u64 10, .int .u64 0, .int .u64 0, .int .u64 0, .int .u64 0, .int .u64 0, .int .u64 0, .int .i64 3, .int .u64 3, .string ⟨#[107]⟩, .int .i64 0, .int .u64 0, .int .u64 0, .int .u64 0, .int .u64 0, .int .u64 30, .int .u64 0, .int .u64 0] 39)) fun e w' => ∃ v', e = .returned (.tuple #[.agg #[.int .u64 2, .int .u64 5, v'], .nilIface]) ∧ SlE w' v' st1.keys ∧ Up u w') := fun u uu => by
    have := Replay_any (.slice none 0 0) 0 0 1 [] (.slice (some ⟨u.heap.size, 0, none⟩) 2 2) [recDef, recCeil 30] ad _ (SlE.nil (u.alloc _)) (two_recs u) (by simp) (by omega) (by simp) (by rintro a m c e; simp only [Value.slice.injEq] at e; unfold maxLen; omega) (hk.up (uu.trans (Up.alloc _ _)))
    rw [replay_lives] at this
    refine this.mono ?_
    rintro e w' ⟨v', rfl, ho, hu⟩
    exact ⟨v', rfl, ho.sl, (Up.alloc _ _).trans hu⟩
  have HAL : Hid (∀ u v, Up w u → SlE u v st1.keys → Calls Tryd.prog 14 #[.agg #[.int .u64 2, .int .u64 5, v], .int .u64 3, RV (recCeil 20)] u fun e w' => e = .returned (.tuple #[.agg #[Z, Z, .slice none 0 0], E (ad 0)]) ∧ Up u w') := fun u v uu h => by
    have := Apply_any v 2 5 3 st1.keys (recCeil 20) ad u h (by simp) (by omega) (hk.up uu)
    rw [show applyS ⟨2, 5, st1.keys⟩ 3 (recCeil 20) = _ from apply_low] at this
    exact this
  have HAG : Hid (∀ u v, Up w u → SlE u v st1.keys → Calls Tryd.prog 14 #[.agg #[.int .u64 2, .int .u64 5, v], .int .u64 3, RV recGone] u fun e w' => ∃ v', e = .returned (.tuple #[.agg #[.int .u64 3, .int .u64 5, v'], .nilIface]) ∧ SlE w' v' [] ∧ Up u w') := fun u v uu h => by
    have := Apply_any v 2 5 3 st1.keys recGone ad u h (by simp) (by omega) (hk.up uu)
    rw [show applyS ⟨2, 5, st1.keys⟩ 3 recGone = _ from apply_gone] at this
    refine this.mono ?_
    rintro e w' ⟨v', rfl, ho, hu⟩
    exact ⟨v', rfl, ho.sl, hu⟩
  have HFI : Hid (∀ u v, SlE u v st1.keys → Calls Tryd.prog 9 #[.agg #[.int .u64 2, .int .u64 5, v], .string ⟨#[107]⟩] u fun e w' => ∃ i : Nat, e = .returned (.tuple #[.int .i64 (i : Int), .bool true]) ∧ Up u w') := fun u v h =>
    (Find_any v st1.keys 2 5 K1 u h (by simp)).mono (by
      rintro e w' ⟨i, o, rfl, ⟨_, h2⟩, h3⟩
      obtain ⟨_, rfl⟩ := h2 (by simp [Srt])
      exact ⟨i, by rw [get_one]; rfl, h3⟩)
  have HVA : Hid (∀ u v, SlE u v st1.keys → Calls Tryd.prog 8 #[.agg #[.int .u64 2, .int .u64 5, v]] u fun e w' => e = .returned (.bool true) ∧ Up u w') := fun u v h => by
    have := Valid_any v 2 5 st1.keys u h (by simp)
    rw [show okS ⟨2, 5, st1.keys⟩ = true from ok1] at this
    exact this
  have HEQ : Hid (∀ u v v2, SlE u v st1.keys → SlE u v2 [] → Calls Tryd.prog 11 #[.agg #[.int .u64 2, .int .u64 5, v], .agg #[.int .u64 3, .int .u64 5, v2]] u fun e w' => e = .returned (.bool false) ∧ Up u w') := fun u v v2 h h2 => by
    have := Equal_any v v2 2 5 3 5 st1.keys [] u h h2 (by simp) (by simp)
    rw [show decide ((⟨2, 5, st1.keys⟩ : StV) = ⟨3, 5, []⟩) = false from by decide] at this
    exact this
  have HEN : Hid (∀ u, (binOp .neq 58 (EV (K1, P1, ⟨30, 0, 0⟩)) (EV (K1, P1, ⟨30, 0, 0⟩))).run Tryd.prog u = .ok (.bool false) u) := fun u => by
    rw [ent_neq]; simp
  clear hk
  go_enter Tryd.func6, Tryd.ntmps6
  go_wp2_with fail
  refine (HDEF.out _).mono ?_
  rintro e w1 ⟨rfl, u1⟩
  go_wp2_with fail
  refine (HCE.out 30 _).mono ?_
  rintro e w2 ⟨rfl, u2⟩
  have U2 := u1.trans u2
  clear u1 u2
  go_wp2_with fail
  refine (HRP.out w2 U2).mono ?_
  rintro e w3 ⟨v3, rfl, s3, u3⟩
  have U3 := U2.trans u3
  obtain ⟨a3, c3, rfl⟩ := s3.shape
  clear U2 u3 HRP
  obtain ⟨ao, cap, e0, _, _, hx⟩ := s3
  simp only [Value.slice.injEq] at e0
  obtain ⟨rfl, _, rfl⟩ := e0
  obtain ⟨g, o, rfl, hents⟩ := hx (by simp)
  have hat0 := hents.at 0 (by simp)
  rw [Nat.zero_mul, Nat.add_zero] at hat0
  have hat : EntAt w3 g o (K1, P1, ⟨30, 0, 0⟩) := hat0
  have s3 : SlE w3 (.slice (some ⟨g, o, none⟩) 1 c3) st1.keys := ⟨some ⟨g, o, none⟩, c3, rfl, by assumption, (by intro e; cases e), fun _ => ⟨g, o, rfl, hents⟩⟩
  have b4 : Box (w3.alloc (.cells #[.int .u64 2, .int .u64 5, .slice (some ⟨g, o, none⟩) 1 c3] 27)) w3.heap.size #[.int .u64 2, .int .u64 5, .slice (some ⟨g, o, none⟩) 1 c3] := Box.new _ _ _
  have ua : Up w3 (w3.alloc (.cells #[.int .u64 2, .int .u64 5, .slice (some ⟨g, o, none⟩) 1 c3] 27)) := Up.alloc _ _
  clear hx hents hat0
  go_upto_region 2 with fail
  replace s3 := s3.up ua
  replace hat := hat.up ua
  have U4 := U3.trans ua
  generalize w3.alloc (.cells #[.int .u64 2, .int .u64 5, .slice (some ⟨g, o, none⟩) 1 c3] 27) = w4 at *
  generalize w3.heap.size = b1 at *
  clear U3 ua
  have hs : Sl2 b1 g o c3 w w4 := ⟨b4, hat, s3, U4⟩
  clear b4 hat s3 U4
  have hs0 := hs
  clear hs0
  replace hs := hs.up (Up.drew w4)
  refine wp_region_held_drew (S := Sl2 b1 g o c3 w) (by kernel_rfl) hs (fun hs0 => ?_)
  refine take_to (some 15) (i := 0) (v := .nilIface) rfl rfl (by kernel_rfl) (by kernel_rfl) (by kernel_rfl) (fun _ _ _ h => h) (Or.inl ⟨by kernel_rfl, by intro u hSu; go_simp⟩) hs ?_
  simp only [Act.put, List.setIfInBounds_toArray, List.set_cons_zero, List.set_cons_succ]
  refine take_to (some 16) (i := 1) (v := .bool false) rfl rfl (by kernel_rfl) (by kernel_rfl) (by kernel_rfl) (fun _ _ _ h => h) (Or.inl ⟨by kernel_rfl, by intro u hSu; go_simp⟩) hs ?_
  simp only [Act.put, List.setIfInBounds_toArray, List.set_cons_zero, List.set_cons_succ]
  refine take_to (some 17) (i := 2) (v := .bool false) rfl rfl (by kernel_rfl) (by kernel_rfl) (by kernel_rfl) (fun _ _ _ h => h) (Or.inl ⟨by kernel_rfl, by intro u hSu; go_simp⟩) hs ?_
  simp only [Act.put, List.setIfInBounds_toArray, List.set_cons_zero, List.set_cons_succ]
  refine take_to (some 18) (i := 3) (v := .pointer (some ⟨b1, 0, none⟩)) rfl rfl (by kernel_rfl) (by kernel_rfl) (by kernel_rfl) (fun _ _ _ h => h) (Or.inl ⟨by kernel_rfl, by intro u hSu; go_simp⟩) hs ?_
  simp only [Act.put, List.setIfInBounds_toArray, List.set_cons_zero, List.set_cons_succ]
  refine take_to (some 19) (i := 4) (v := .int .u64 2) rfl rfl (by kernel_rfl) (by kernel_rfl) (by kernel_rfl) (fun _ _ _ h => h) (Or.inl ⟨by kernel_rfl, by intro u hSu; obtain ⟨q0, q1, q2⟩ := hSu.box.c3; go_simp⟩) hs ?_
  simp only [Act.put, List.setIfInBounds_toArray, List.set_cons_zero, List.set_cons_succ]
  refine take_to (some 20) (i := 5) (v := .bool false) rfl rfl (by kernel_rfl) (by kernel_rfl) (by kernel_rfl) (fun _ _ _ h => h) (Or.inl ⟨by kernel_rfl, by intro u hSu; go_simp⟩) hs ?_
  simp only [Act.put, List.setIfInBounds_toArray, List.set_cons_zero, List.set_cons_succ]
  refine take_to (some 21) (i := 6) (v := .bool false) rfl rfl (by kernel_rfl) (by kernel_rfl) (by kernel_rfl) (fun _ _ _ h => h) (Or.inl ⟨by kernel_rfl, by intro u hSu; go_simp⟩) hs ?_
  simp only [Act.put, List.setIfInBounds_toArray, List.set_cons_zero, List.set_cons_succ]
  refine take_to (some 22) (i := 7) (v := .bool false) rfl rfl (by kernel_rfl) (by kernel_rfl) (by kernel_rfl) (fun _ _ _ h => h) (Or.inl ⟨by kernel_rfl, by intro u hSu; go_simp⟩) hs ?_
  simp only [Act.put, List.setIfInBounds_toArray, List.set_cons_zero, List.set_cons_succ]
  refine take_to (some 23) (i := 8) (v := .pointer (some ⟨b1, 1, none⟩)) rfl rfl (by kernel_rfl) (by kernel_rfl) (by kernel_rfl) (fun _ _ _ h => h) (Or.inl ⟨by kernel_rfl, by intro u hSu; go_simp⟩) hs ?_
  simp only [Act.put, List.setIfInBounds_toArray, List.set_cons_zero, List.set_cons_succ]
  refine take_to (some 24) (i := 9) (v := .int .u64 5) rfl rfl (by kernel_rfl) (by kernel_rfl) (by kernel_rfl) (fun _ _ _ h => h) (Or.inl ⟨by kernel_rfl, by intro u hSu; obtain ⟨q0, q1, q2⟩ := hSu.box.c3; go_simp⟩) hs ?_
  simp only [Act.put, List.setIfInBounds_toArray, List.set_cons_zero, List.set_cons_succ]
  refine take_to (some 25) (i := 10) (v := .bool false) rfl rfl (by kernel_rfl) (by kernel_rfl) (by kernel_rfl) (fun _ _ _ h => h) (Or.inl ⟨by kernel_rfl, by intro u hSu; go_simp⟩) hs ?_
  simp only [Act.put, List.setIfInBounds_toArray, List.set_cons_zero, List.set_cons_succ]
  refine take_to (some 26) (i := 11) (v := .bool false) rfl rfl (by kernel_rfl) (by kernel_rfl) (by kernel_rfl) (fun _ _ _ h => h) (Or.inl ⟨by kernel_rfl, by intro u hSu; go_simp⟩) hs ?_
  simp only [Act.put, List.setIfInBounds_toArray, List.set_cons_zero, List.set_cons_succ]
  refine take_to (some 27) (i := 12) (v := .bool false) rfl rfl (by kernel_rfl) (by kernel_rfl) (by kernel_rfl) (fun _ _ _ h => h) (Or.inl ⟨by kernel_rfl, by intro u hSu; go_simp⟩) hs ?_
  simp only [Act.put, List.setIfInBounds_toArray, List.set_cons_zero, List.set_cons_succ]
  refine take_to (some 28) (i := 13) (v := .pointer (some ⟨b1, 2, none⟩)) rfl rfl (by kernel_rfl) (by kernel_rfl) (by kernel_rfl) (fun _ _ _ h => h) (Or.inl ⟨by kernel_rfl, by intro u hSu; go_simp⟩) hs ?_
  simp only [Act.put, List.setIfInBounds_toArray, List.set_cons_zero, List.set_cons_succ]
  refine take_to (some 29) (i := 14) (v := .slice (some ⟨g, o, none⟩) 1 c3) rfl rfl (by kernel_rfl) (by kernel_rfl) (by kernel_rfl) (fun _ _ _ h => h) (Or.inl ⟨by kernel_rfl, by intro u hSu; obtain ⟨q0, q1, q2⟩ := hSu.box.c3; go_simp⟩) hs ?_
  simp only [Act.put, List.setIfInBounds_toArray, List.set_cons_zero, List.set_cons_succ]
  refine take_to (some 30) (i := 15) (v := .int .i64 1) rfl rfl (by kernel_rfl) (by kernel_rfl) (by kernel_rfl) (fun _ _ _ h => h) (Or.inl ⟨by kernel_rfl, by intro u hSu; go_simp⟩) hs ?_
  simp only [Act.put, List.setIfInBounds_toArray, List.set_cons_zero, List.set_cons_succ]
  refine take_to (some 31) (i := 16) (v := .bool false) rfl rfl (by kernel_rfl) (by kernel_rfl) (by kernel_rfl) (fun _ _ _ h => h) (Or.inl ⟨by kernel_rfl, by intro u hSu; go_simp⟩) hs ?_
  simp only [Act.put, List.setIfInBounds_toArray, List.set_cons_zero, List.set_cons_succ]
  refine take_to (some 32) (i := 17) (v := .bool false) rfl rfl (by kernel_rfl) (by kernel_rfl) (by kernel_rfl) (fun _ _ _ h => h) (Or.inl ⟨by kernel_rfl, by intro u hSu; go_simp⟩) hs ?_
  simp only [Act.put, List.setIfInBounds_toArray, List.set_cons_zero, List.set_cons_succ]
  refine take_to (some 33) (i := 18) (v := .bool false) rfl rfl (by kernel_rfl) (by kernel_rfl) (by kernel_rfl) (fun _ _ _ h => h) (Or.inl ⟨by kernel_rfl, by intro u hSu; go_simp⟩) hs ?_
  simp only [Act.put, List.setIfInBounds_toArray, List.set_cons_zero, List.set_cons_succ]
  refine take_to (some 34) (i := 19) (v := .pointer (some ⟨b1, 2, none⟩)) rfl rfl (by kernel_rfl) (by kernel_rfl) (by kernel_rfl) (fun _ _ _ h => h) (Or.inl ⟨by kernel_rfl, by intro u hSu; go_simp⟩) hs ?_
  simp only [Act.put, List.setIfInBounds_toArray, List.set_cons_zero, List.set_cons_succ]
  refine take_to (some 35) (i := 20) (v := .slice (some ⟨g, o, none⟩) 1 c3) rfl rfl (by kernel_rfl) (by kernel_rfl) (by kernel_rfl) (fun _ _ _ h => h) (Or.inl ⟨by kernel_rfl, by intro u hSu; obtain ⟨q0, q1, q2⟩ := hSu.box.c3; go_simp⟩) hs ?_
  simp only [Act.put, List.setIfInBounds_toArray, List.set_cons_zero, List.set_cons_succ]
  refine take_to (some 36) (i := 21) (v := .pointer (some ⟨g, o, none⟩)) rfl rfl (by kernel_rfl) (by kernel_rfl) (by kernel_rfl) (fun _ _ _ h => h) (Or.inl ⟨by kernel_rfl, by intro u hSu; go_simp⟩) hs ?_
  simp only [Act.put, List.setIfInBounds_toArray, List.set_cons_zero, List.set_cons_succ]
  refine take_to (some 37) (i := 22) (v := .agg #[.string ⟨#[107]⟩, .int .i64 1, .int .u64 10, .int .u64 0, .int .u64 0, .int .u64 0, .int .u64 30, .int .u64 0, .int .u64 0]) rfl rfl (by kernel_rfl) (by kernel_rfl) (by kernel_rfl) (fun _ _ _ h => h) (Or.inl ⟨by kernel_rfl, by intro u hSu; obtain ⟨e0, e1, e2, e3, e4, e5, e6, e7, e8⟩ := hSu.ent; simp only at e0 e1 e2 e3 e4 e5 e6 e7 e8; go_simp⟩) hs ?_
  simp only [Act.put, List.setIfInBounds_toArray, List.set_cons_zero, List.set_cons_succ]
  refine take_to (some 39) (i := 24) (v := .agg #[.int .u64 30, .int .u64 0, .int .u64 0]) rfl rfl (by kernel_rfl) (by kernel_rfl) (by kernel_rfl) (fun _ _ _ h => h) (Or.inl ⟨by kernel_rfl, by intro u hSu; go_simp⟩) hs ?_
  simp only [Act.put, List.setIfInBounds_toArray, List.set_cons_zero, List.set_cons_succ]
  refine wpAnyH_ready (rs := [23]) (by kernel_rfl) (by simp) ?_
  refine AllReadyH.cons rfl (fun K hK => ?_) AllReadyH.nil
  go_simp
  refine (HFL.out _).mono ?_
  rintro e w5 ⟨rfl, u5⟩
  replace hs := hs.up u5
  refine hK.out _ _ hs (fun _ => ?_)
  clear hK K
  refine take_to (some 40) (i := 25) (v := .agg #[.string ⟨#[107]⟩, .int .i64 1, .int .u64 10, .int .u64 0, .int .u64 0, .int .u64 0, .int .u64 30, .int .u64 0, .int .u64 0]) rfl rfl (by kernel_rfl) (by kernel_rfl) (by kernel_rfl) (fun _ _ _ h => h) (Or.inl ⟨by kernel_rfl, by intro u hSu; go_simp⟩) hs ?_
  simp only [Act.put, List.setIfInBounds_toArray, List.set_cons_zero, List.set_cons_succ]
  refine take_to (some 41) (i := 26) (v := .bool false) rfl rfl (by kernel_rfl) (by kernel_rfl) (by kernel_rfl) (fun _ _ _ h => h) (Or.inl ⟨by kernel_rfl, by intro u hSu; have qn := HEN.out u; go_simp⟩) hs ?_
  simp only [Act.put, List.setIfInBounds_toArray, List.set_cons_zero, List.set_cons_succ]
  refine take_to (some 42) (i := 27) (v := .bool false) rfl rfl (by kernel_rfl) (by kernel_rfl) (by kernel_rfl) (fun _ _ _ h => h) (Or.inl ⟨by kernel_rfl, by intro u hSu; go_simp⟩) hs ?_
  simp only [Act.put, List.setIfInBounds_toArray, List.set_cons_zero, List.set_cons_succ]
  refine wpAnyH_done (by kernel_rfl) ?_ _
  clear hs0 HFL HEN HDEF
  go_upto_region 4 with fail
  replace hs := hs.up (Up.drew w5)
  refine wp_region_held_drew (S := Sl2 b1 g o c3 w) (by kernel_rfl) hs (fun hs0 => ?_)
  refine take_to (some 44) (i := 0) (v := .agg #[.int .u64 2, .int .u64 5, .slice (some ⟨g, o, none⟩) 1 c3]) rfl rfl (by kernel_rfl) (by kernel_rfl) (by kernel_rfl) (fun _ _ _ h => h) (Or.inl ⟨by kernel_rfl, by intro u hSu; obtain ⟨q0, q1, q2⟩ := hSu.box.c3; go_simp⟩) hs ?_
  simp only [Act.put, List.setIfInBounds_toArray, List.set_cons_zero, List.set_cons_succ]
  refine wpAnyH_ready (rs := [1]) (by kernel_rfl) (by simp) ?_
  refine AllReadyH.cons rfl (fun K hK => ?_) AllReadyH.nil
  go_simp
  refine (HCE.out 20 _).mono ?_
  rintro e w6 ⟨rfl, u6⟩
  replace hs := hs.up u6
  refine hK.out _ _ hs (fun _ => ?_)
  clear hK K
  refine wpAnyH_ready (rs := [2]) (by kernel_rfl) (by simp) ?_
  refine AllReadyH.cons rfl (fun K hK => ?_) AllReadyH.nil
  go_simp
  refine (HAL.out w6 _ hs.all hs.sl).mono ?_
  rintro e w7 ⟨rfl, u7⟩
  replace hs := hs.up u7
  refine hK.out _ _ hs (fun _ => ?_)
  clear hK K
  refine take_to (some 43) (i := 3) (v := .tuple #[.agg #[Z, Z, .slice none 0 0], E (ad 0)]) rfl rfl (by kernel_rfl) (by kernel_rfl) (by kernel_rfl) (fun _ _ _ h => h) (Or.inl ⟨by kernel_rfl, by intro u hSu; go_simp⟩) hs ?_
  simp only [Act.put, List.setIfInBounds_toArray, List.set_cons_zero, List.set_cons_succ]
  refine take_to (some 47) (i := 4) (v := .agg #[Z, Z, .slice none 0 0]) rfl rfl (by kernel_rfl) (by kernel_rfl) (by kernel_rfl) (fun _ _ _ h => h) (Or.inl ⟨by kernel_rfl, by intro u hSu; go_simp⟩) hs ?_
  simp only [Act.put, List.setIfInBounds_toArray, List.set_cons_zero, List.set_cons_succ]
  refine take_to (some 48) (i := 5) (v := E (ad 0)) rfl rfl (by kernel_rfl) (by kernel_rfl) (by kernel_rfl) (fun _ _ _ h => h) (Or.inl ⟨by kernel_rfl, by intro u hSu; go_simp⟩) hs ?_
  simp only [Act.put, List.setIfInBounds_toArray, List.set_cons_zero, List.set_cons_succ]
  refine take_to (some 2) (i := 6) (v := E (ad 0)) rfl rfl (by kernel_rfl) (by kernel_rfl) (by kernel_rfl) (fun _ _ _ h => h) (Or.inl ⟨by kernel_rfl, by intro u hSu; go_simp⟩) hs ?_
  simp only [Act.put, List.setIfInBounds_toArray, List.set_cons_zero, List.set_cons_succ]
  refine wpAnyH_done (by kernel_rfl) ?_ _
  clear hs0 HCE HAL
  go_upto_region 5 with fail
  go_cut [3, 4] (fun x3 x4 wx => ∃ (b2 : Nat) (a7 : Option Addr) (c7 : Nat), x3 = .pointer (some ⟨b2, 0, none⟩) ∧ x4 = .nilIface ∧ Hid (Sl2 b1 g o c3 w wx) ∧ Hid (Box wx b2 #[.int .u64 3, .int .u64 5, .slice a7 0 c7]) ∧ Hid (a7 = none → c7 = 0))
  case first =>
    replace hs := hs.up (Up.drew w7)
    refine wp_region_held_drew (S := Sl2 b1 g o c3 w) (by kernel_rfl) hs (fun hs0 => ?_)
    refine take_to (some 50) (i := 0) (v := .agg #[.int .u64 2, .int .u64 5, .slice (some ⟨g, o, none⟩) 1 c3]) rfl rfl (by kernel_rfl) (by kernel_rfl) (by kernel_rfl) (fun _ _ _ h => h) (Or.inl ⟨by kernel_rfl, by intro u hSu; obtain ⟨q0, q1, q2⟩ := hSu.box.c3; go_simp⟩) hs ?_
    simp only [Act.put, List.setIfInBounds_toArray, List.set_cons_zero, List.set_cons_succ]
    generalize w7.drew = wd5 at *
    refine wpAnyH_ready (rs := [1, 6]) (by kernel_rfl) (by simp) ?_
    refine AllReadyH.cons rfl (fun K hK => ?_) (AllReadyH.cons rfl (fun K hK => ?_) AllReadyH.nil)
    · skip
      go_simp
      refine (HGO.out _).mono ?_
      rintro e w8 ⟨rfl, u8⟩
      replace hs := hs.up u8
      clear u8
      refine hK.out _ _ hs (fun _ => ?_)
      clear hK K
      refine wpAnyH_ready (rs := [2, 6]) (by kernel_rfl) (by simp) ?_
      refine AllReadyH.cons rfl (fun K hK => ?_) (AllReadyH.cons rfl (fun K hK => ?_) AllReadyH.nil)
      · skip
        go_simp
        refine (HAG.out _ _ hs.all hs.sl).mono ?_
        rintro e w9 ⟨v9, rfl, s9, u9⟩
        replace hs := hs.up u9
        obtain ⟨a7, c7, rfl, _, hnz, _⟩ := s9
        have HNZ : Hid (a7 = none → c7 = 0) := hnz
        clear u9 hnz
        refine hK.out _ _ hs (fun _ => ?_)
        clear hK K
        refine take_to (some 49) (i := 3) (v := .tuple #[.agg #[.int .u64 3, .int .u64 5, .slice a7 0 c7], .nilIface]) rfl rfl (by kernel_rfl) (by kernel_rfl) (by kernel_rfl) (fun _ _ _ h => h) (Or.inl ⟨by kernel_rfl, by intro u hSu; go_simp⟩) hs ?_
        simp only [Act.put, List.setIfInBounds_toArray, List.set_cons_zero, List.set_cons_succ]
        refine take_to (some 53) (i := 4) (v := .agg #[.int .u64 3, .int .u64 5, .slice a7 0 c7]) rfl rfl (by kernel_rfl) (by kernel_rfl) (by kernel_rfl) (fun _ _ _ h => h) (Or.inl ⟨by kernel_rfl, by intro u hSu; go_simp⟩) hs ?_
        simp only [Act.put, List.setIfInBounds_toArray, List.set_cons_zero, List.set_cons_succ]
        refine take_to (some 54) (i := 5) (v := .nilIface) rfl rfl (by kernel_rfl) (by kernel_rfl) (by kernel_rfl) (fun _ _ _ h => h) (Or.inl ⟨by kernel_rfl, by intro u hSu; go_simp⟩) hs ?_
        simp only [Act.put, List.setIfInBounds_toArray, List.set_cons_zero, List.set_cons_succ]
        refine wpAnyH_ready (rs := [6]) (by kernel_rfl) (by simp) ?_
        refine AllReadyH.cons rfl (fun K hK => ?_) AllReadyH.nil
        go_simp
        have bz := Box.new w9 #[Z, Z, .slice none 0 0] 27
        have hl1 := hs.box.lt
        have hl2 := hs.lt
        have hl3 := hs.all.size
        replace hs := hs.up (Up.alloc w9 (.cells #[Z, Z, .slice none 0 0] 27))
        refine hK.out _ _ hs (fun _ => ?_)
        clear hK K
        generalize w9.alloc (.cells #[Z, Z, .slice none 0 0] 27) = wa at *
        generalize w9.heap.size = b2 at *
        refine wpAnyH_ready (rs := [7]) (by kernel_rfl) (by simp) ?_
        refine AllReadyH.cons rfl (fun K hK => ?_) AllReadyH.nil
        obtain ⟨y0, y1, y2⟩ := bz.c3
        have f0 := bz.frozen 0
        have f1 := bz.frozen 1
        have f2 := bz.frozen 2
        go_simp
        have bR := Box.set3 (x := .int .u64 3) (y := .int .u64 5) (z := .slice a7 0 c7) bz
        have tR : Touch wa (((wa.setCell ⟨b2, 0, none⟩ (.int .u64 3)).setCell ⟨b2, 1, none⟩ (.int .u64 5)).setCell ⟨b2, 2, none⟩ (.slice a7 0 c7)) [b2] := (((Touch.refl _ _).setCell (.inl (by simp)) _ _).setCell (.inl (by simp)) _ _).setCell (.inl (by simp)) _ _
        replace hs := hs.kept tR (by omega) (by omega) (by omega)
        refine hK.out _ _ hs (fun _ => ?_)
        clear hK K y0 y1 y2 f0 f1 f2 tR
        generalize World.setCell (World.setCell (World.setCell _ _ _) _ _) _ _ = wz at *
        refine wpAnyH_ready (rs := [8]) (by kernel_rfl) (by simp) ?_
        refine AllReadyH.cons rfl (fun K hK => ?_) AllReadyH.nil
        go_simp
        refine hK.out _ _ hs (fun _ => ?_)
        clear hK K
        refine wpAnyH_done (by kernel_rfl) ?_ _
        go_wp2_with fail
        go_meet
        case rel => exact ⟨b2, a7, c7, rfl, rfl, hs, bR, HNZ.out⟩
      · skip
        go_simp
        have bz := Box.new w8 #[Z, Z, .slice none 0 0] 27
        have hl1 := hs.box.lt
        have hl2 := hs.lt
        have hl3 := hs.all.size
        replace hs := hs.up (Up.alloc w8 (.cells #[Z, Z, .slice none 0 0] 27))
        refine hK.out _ _ hs (fun _ => ?_)
        clear hK K
        generalize w8.alloc (.cells #[Z, Z, .slice none 0 0] 27) = wa at *
        generalize w8.heap.size = b2 at *
        refine wpAnyH_ready (rs := [2]) (by kernel_rfl) (by simp) ?_
        refine AllReadyH.cons rfl (fun K hK => ?_) AllReadyH.nil
        go_simp
        refine (HAG.out _ _ hs.all hs.sl).mono ?_
        rintro e w9 ⟨v9, rfl, s9, u9⟩
        replace hs := hs.up u9
        replace bz := bz.up u9
        obtain ⟨a7, c7, rfl, _, hnz, _⟩ := s9
        have HNZ : Hid (a7 = none → c7 = 0) := hnz
        clear u9 hnz
        refine hK.out _ _ hs (fun _ => ?_)
        clear hK K
        refine take_to (some 49) (i := 3) (v := .tuple #[.agg #[.int .u64 3, .int .u64 5, .slice a7 0 c7], .nilIface]) rfl rfl (by kernel_rfl) (by kernel_rfl) (by kernel_rfl) (fun _ _ _ h => h) (Or.inl ⟨by kernel_rfl, by intro u hSu; go_simp⟩) hs ?_
        simp only [Act.put, List.setIfInBounds_toArray, List.set_cons_zero, List.set_cons_succ]
        refine take_to (some 53) (i := 4) (v := .agg #[.int .u64 3, .int .u64 5, .slice a7 0 c7]) rfl rfl (by kernel_rfl) (by kernel_rfl) (by kernel_rfl) (fun _ _ _ h => h) (Or.inl ⟨by kernel_rfl, by intro u hSu; go_simp⟩) hs ?_
        simp only [Act.put, List.setIfInBounds_toArray, List.set_cons_zero, List.set_cons_succ]
        refine take_to (some 54) (i := 5) (v := .nilIface) rfl rfl (by kernel_rfl) (by kernel_rfl) (by kernel_rfl) (fun _ _ _ h => h) (Or.inl ⟨by kernel_rfl, by intro u hSu; go_simp⟩) hs ?_
        simp only [Act.put, List.setIfInBounds_toArray, List.set_cons_zero, List.set_cons_succ]
        refine wpAnyH_ready (rs := [7]) (by kernel_rfl) (by simp) ?_
        refine AllReadyH.cons rfl (fun K hK => ?_) AllReadyH.nil
        obtain ⟨y0, y1, y2⟩ := bz.c3
        have f0 := bz.frozen 0
        have f1 := bz.frozen 1
        have f2 := bz.frozen 2
        go_simp
        have bR := Box.set3 (x := .int .u64 3) (y := .int .u64 5) (z := .slice a7 0 c7) bz
        have tR : Touch w9 (((w9.setCell ⟨b2, 0, none⟩ (.int .u64 3)).setCell ⟨b2, 1, none⟩ (.int .u64 5)).setCell ⟨b2, 2, none⟩ (.slice a7 0 c7)) [b2] := (((Touch.refl _ _).setCell (.inl (by simp)) _ _).setCell (.inl (by simp)) _ _).setCell (.inl (by simp)) _ _
        replace hs := hs.kept tR (by omega) (by omega) (by omega)
        refine hK.out _ _ hs (fun _ => ?_)
        clear hK K y0 y1 y2 f0 f1 f2 tR
        generalize World.setCell (World.setCell (World.setCell _ _ _) _ _) _ _ = wz at *
        refine wpAnyH_ready (rs := [8]) (by kernel_rfl) (by simp) ?_
        refine AllReadyH.cons rfl (fun K hK => ?_) AllReadyH.nil
        go_simp
        refine hK.out _ _ hs (fun _ => ?_)
        clear hK K
        refine wpAnyH_done (by kernel_rfl) ?_ _
        go_wp2_with fail
        go_meet
        case rel => exact ⟨b2, a7, c7, rfl, rfl, hs, bR, HNZ.out⟩
    · skip
      go_simp
      have bz := Box.new wd5 #[Z, Z, .slice none 0 0] 27
      have hl1 := hs.box.lt
      have hl2 := hs.lt
      have hl3 := hs.all.size
      replace hs := hs.up (Up.alloc wd5 (.cells #[Z, Z, .slice none 0 0] 27))
      refine hK.out _ _ hs (fun _ => ?_)
      clear hK K
      generalize wd5.alloc (.cells #[Z, Z, .slice none 0 0] 27) = wa at *
      generalize wd5.heap.size = b2 at *
      refine wpAnyH_ready (rs := [1]) (by kernel_rfl) (by simp) ?_
      refine AllReadyH.cons rfl (fun K hK => ?_) AllReadyH.nil
      go_simp
      refine (HGO.out _).mono ?_
      rintro e w8 ⟨rfl, u8⟩
      replace hs := hs.up u8
      replace bz := bz.up u8
      clear u8
      refine hK.out _ _ hs (fun _ => ?_)
      clear hK K
      refine wpAnyH_ready (rs := [2]) (by kernel_rfl) (by simp) ?_
      refine AllReadyH.cons rfl (fun K hK => ?_) AllReadyH.nil
      go_simp
      refine (HAG.out _ _ hs.all hs.sl).mono ?_
      rintro e w9 ⟨v9, rfl, s9, u9⟩
      replace hs := hs.up u9
      replace bz := bz.up u9
      obtain ⟨a7, c7, rfl, _, hnz, _⟩ := s9
      have HNZ : Hid (a7 = none → c7 = 0) := hnz
      clear u9 hnz
      refine hK.out _ _ hs (fun _ => ?_)
      clear hK K
      refine take_to (some 49) (i := 3) (v := .tuple #[.agg #[.int .u64 3, .int .u64 5, .slice a7 0 c7], .nilIface]) rfl rfl (by kernel_rfl) (by kernel_rfl) (by kernel_rfl) (fun _ _ _ h => h) (Or.inl ⟨by kernel_rfl, by intro u hSu; go_simp⟩) hs ?_
      simp only [Act.put, List.setIfInBounds_toArray, List.set_cons_zero, List.set_cons_succ]
      refine take_to (some 53) (i := 4) (v := .agg #[.int .u64 3, .int .u64 5, .slice a7 0 c7]) rfl rfl (by kernel_rfl) (by kernel_rfl) (by kernel_rfl) (fun _ _ _ h => h) (Or.inl ⟨by kernel_rfl, by intro u hSu; go_simp⟩) hs ?_
      simp only [Act.put, List.setIfInBounds_toArray, List.set_cons_zero, List.set_cons_succ]
      refine take_to (some 54) (i := 5) (v := .nilIface) rfl rfl (by kernel_rfl) (by kernel_rfl) (by kernel_rfl) (fun _ _ _ h => h) (Or.inl ⟨by kernel_rfl, by intro u hSu; go_simp⟩) hs ?_
      simp only [Act.put, List.setIfInBounds_toArray, List.set_cons_zero, List.set_cons_succ]
      refine wpAnyH_ready (rs := [7]) (by kernel_rfl) (by simp) ?_
      refine AllReadyH.cons rfl (fun K hK => ?_) AllReadyH.nil
      obtain ⟨y0, y1, y2⟩ := bz.c3
      have f0 := bz.frozen 0
      have f1 := bz.frozen 1
      have f2 := bz.frozen 2
      go_simp
      have bR := Box.set3 (x := .int .u64 3) (y := .int .u64 5) (z := .slice a7 0 c7) bz
      have tR : Touch w9 (((w9.setCell ⟨b2, 0, none⟩ (.int .u64 3)).setCell ⟨b2, 1, none⟩ (.int .u64 5)).setCell ⟨b2, 2, none⟩ (.slice a7 0 c7)) [b2] := (((Touch.refl _ _).setCell (.inl (by simp)) _ _).setCell (.inl (by simp)) _ _).setCell (.inl (by simp)) _ _
      replace hs := hs.kept tR (by omega) (by omega) (by omega)
      refine hK.out _ _ hs (fun _ => ?_)
      clear hK K y0 y1 y2 f0 f1 f2 tR
      generalize World.setCell (World.setCell (World.setCell _ _ _) _ _) _ _ = wz at *
      refine wpAnyH_ready (rs := [8]) (by kernel_rfl) (by simp) ?_
      refine AllReadyH.cons rfl (fun K hK => ?_) AllReadyH.nil
      go_simp
      refine hK.out _ _ hs (fun _ => ?_)
      clear hK K
      refine wpAnyH_done (by kernel_rfl) ?_ _
      go_wp2_with fail
      go_meet
      case rel => exact ⟨b2, a7, c7, rfl, rfl, hs, bR, HNZ.out⟩
  case rest =>
    clear hs HGO HAG
    obtain ⟨b2, a7, c7, rfl, rfl, HS, HB2, HN7⟩ := hcut
    obtain ⟨s0, s1, s2⟩ := HS.out.box.c3
    go_wp2_with fail
    refine (HFI.out _ _ HS.out.sl).mono ?_
    rintro e w8 ⟨i8, rfl, u8⟩
    have hs8 := HS.out.up u8
    have hb8 := HB2.out.up u8
    obtain ⟨q0, q1, q2⟩ := hs8.box.c3
    obtain ⟨p0, p1, p2⟩ := hb8.c3
    have ge := ((HK.out 0 (by decide)).1.up hs8.all).cell
    have es := eq_same (ad 0)
    have HS8 : Hid (Sl2 b1 g o c3 w w8 ∧ Box w8 b2 #[.int .u64 3, .int .u64 5, .slice a7 0 c7]) := ⟨hs8, hb8⟩
    clear s0 s1 s2 u8 HS HB2 hs8 hb8
    generalize ad 0 = aL at *
    go_wp2_with fail
    refine (HVA.out _ _ HS8.out.1.sl).mono ?_
    rintro e w9 ⟨rfl, u9⟩
    have hs9 := HS8.out.1.up u9
    have hb9 := HS8.out.2.up u9
    clear q0 q1 q2 p0 p1 p2 ge
    obtain ⟨q0, q1, q2⟩ := hs9.box.c3
    obtain ⟨p0, p1, p2⟩ := hb9.c3
    have HS9 : Hid (Sl2 b1 g o c3 w w9) := hs9
    clear hs9 hb9 u9 HS8
    go_wp2_with fail
    refine (HEQ.out _ _ (.slice a7 0 c7) HS9.out.sl ⟨a7, c7, rfl, Nat.zero_le _, HN7.out, fun h => absurd rfl h⟩).mono ?_
    rintro e w10 ⟨rfl, u10⟩
    have HSX : Hid (Up w w10) := HS9.out.all.trans u10
    clear u10 HS9 q0 q1 q2 p0 p1 p2
    go_wp2
    go_ret
    exact ⟨rfl, HSX.out⟩
end Go.Proofs.YtdddfapelencoaaDoor

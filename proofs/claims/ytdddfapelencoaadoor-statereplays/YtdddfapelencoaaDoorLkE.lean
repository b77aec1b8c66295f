/- Merged: StEq, StLkW, StLkF, StLkE. -/
import Derived.Test.YtdddfapelencoaaDoorStFind
import Derived.Test.YtdddfapelencoaaDoorLkA
import Derived.Deep.DeepCutAuto
set_option linter.unusedVariables false
set_option linter.unusedSimpArgs false
namespace Go.Proofs.YtdddfapelencoaaDoor
open Go Go.RowKit

set_option maxHeartbeats 1600000 in
theorem ent_neq (x y : Ent) (u : World) : (binOp .neq 58 (EV x) (EV y)).run Tryd.prog u = .ok (.bool (decide (¬ x = y))) u := by
  obtain ⟨S, ⟨pk, pg, ps, pq, pp⟩, lt, li, lc⟩ := x
  obtain ⟨S2, ⟨pk2, pg2, ps2, pq2, pp2⟩, lt2, li2, lc2⟩ := y
  by_cases h0 : S = S2
  rotate_left
  · have hn : ¬ ((S, ⟨pk, pg, ps, pq, pp⟩, ⟨lt, li, lc⟩) : Ent) = (S2, ⟨pk2, pg2, ps2, pq2, pp2⟩, ⟨lt2, li2, lc2⟩) := fun e => h0 (by simpa using congrArg (fun z : Ent => z.1) e)
    rw [decide_eq_true hn]
    simp [go_sem, beq_ne h0]
  subst h0
  by_cases h1 : pk = pk2
  rotate_left
  · have hn : ¬ ((S, ⟨pk, pg, ps, pq, pp⟩, ⟨lt, li, lc⟩) : Ent) = (S, ⟨pk2, pg2, ps2, pq2, pp2⟩, ⟨lt2, li2, lc2⟩) := fun e => h1 (by simpa using congrArg (fun z : Ent => z.2.1.k) e)
    rw [decide_eq_true hn]
    simp [go_sem, h1]
  subst h1
  by_cases h2 : pg = pg2
  rotate_left
  · have hn : ¬ ((S, ⟨pk, pg, ps, pq, pp⟩, ⟨lt, li, lc⟩) : Ent) = (S, ⟨pk, pg2, ps2, pq2, pp2⟩, ⟨lt2, li2, lc2⟩) := fun e => h2 (by simpa using congrArg (fun z : Ent => z.2.1.g) e)
    rw [decide_eq_true hn]
    have hi : ¬ ((pg : Int) = (pg2 : Int)) := by omega
    simp [go_sem, h2, hi]
  subst h2
  by_cases h3 : ps = ps2
  rotate_left
  · have hn : ¬ ((S, ⟨pk, pg, ps, pq, pp⟩, ⟨lt, li, lc⟩) : Ent) = (S, ⟨pk, pg, ps2, pq2, pp2⟩, ⟨lt2, li2, lc2⟩) := fun e => h3 (by simpa using congrArg (fun z : Ent => z.2.1.s) e)
    rw [decide_eq_true hn]
    have hi : ¬ ((ps : Int) = (ps2 : Int)) := by omega
    simp [go_sem, h3, hi]
  subst h3
  by_cases h4 : pq = pq2
  rotate_left
  · have hn : ¬ ((S, ⟨pk, pg, ps, pq, pp⟩, ⟨lt, li, lc⟩) : Ent) = (S, ⟨pk, pg, ps, pq2, pp2⟩, ⟨lt2, li2, lc2⟩) := fun e => h4 (by simpa using congrArg (fun z : Ent => z.2.1.l) e)
    rw [decide_eq_true hn]
    have hi : ¬ ((pq : Int) = (pq2 : Int)) := by omega
    simp [go_sem, h4, hi]
  subst h4
  by_cases h5 : pp = pp2
  rotate_left
  · have hn : ¬ ((S, ⟨pk, pg, ps, pq, pp⟩, ⟨lt, li, lc⟩) : Ent) = (S, ⟨pk, pg, ps, pq, pp2⟩, ⟨lt2, li2, lc2⟩) := fun e => h5 (by simpa using congrArg (fun z : Ent => z.2.1.p) e)
    rw [decide_eq_true hn]
    have hi : ¬ ((pp : Int) = (pp2 : Int)) := by omega
    simp [go_sem, h5, hi]
  subst h5
  by_cases h6 : lt = lt2
  rotate_left
  · have hn : ¬ ((S, ⟨pk, pg, ps, pq, pp⟩, ⟨lt, li, lc⟩) : Ent) = (S, ⟨pk, pg, ps, pq, pp⟩, ⟨lt2, li2, lc2⟩) := fun e => h6 (by simpa using congrArg (fun z : Ent => z.2.2.t) e)
    rw [decide_eq_true hn]
    have hi : ¬ ((lt : Int) = (lt2 : Int)) := by omega
    simp [go_sem, h6, hi]
  subst h6
  by_cases h7 : li = li2
  rotate_left
  · have hn : ¬ ((S, ⟨pk, pg, ps, pq, pp⟩, ⟨lt, li, lc⟩) : Ent) = (S, ⟨pk, pg, ps, pq, pp⟩, ⟨lt, li2, lc2⟩) := fun e => h7 (by simpa using congrArg (fun z : Ent => z.2.2.i) e)
    rw [decide_eq_true hn]
    have hi : ¬ ((li : Int) = (li2 : Int)) := by omega
    simp [go_sem, h7, hi]
  subst h7
  by_cases h8 : lc = lc2
  rotate_left
  · have hn : ¬ ((S, ⟨pk, pg, ps, pq, pp⟩, ⟨lt, li, lc⟩) : Ent) = (S, ⟨pk, pg, ps, pq, pp⟩, ⟨lt, li, lc2⟩) := fun e => h8 (by simpa using congrArg (fun z : Ent => z.2.2.c) e)
    rw [decide_eq_true hn]
    have hi : ¬ ((lc : Int) = (lc2 : Int)) := by omega
    simp [go_sem, h8, hi]
  subst h8
  rw [show decide (¬ (((S, ⟨pk, pg, ps, pq, pp⟩, ⟨lt, li, lc⟩) : Ent) = (S, ⟨pk, pg, ps, pq, pp⟩, ⟨lt, li, lc⟩))) = false from decide_eq_false (fun h => h rfl)]
  simp [go_sem]

set_option maxHeartbeats 1600000 in
theorem ent_eql (x y : Ent) (u : World) : (binOp .eql 58 (EV x) (EV y)).run Tryd.prog u = .ok (.bool (decide (x = y))) u := by
  obtain ⟨S, ⟨pk, pg, ps, pq, pp⟩, lt, li, lc⟩ := x
  obtain ⟨S2, ⟨pk2, pg2, ps2, pq2, pp2⟩, lt2, li2, lc2⟩ := y
  by_cases h0 : S = S2
  rotate_left
  · have hn : ¬ ((S, ⟨pk, pg, ps, pq, pp⟩, ⟨lt, li, lc⟩) : Ent) = (S2, ⟨pk2, pg2, ps2, pq2, pp2⟩, ⟨lt2, li2, lc2⟩) := fun e => h0 (by simpa using congrArg (fun z : Ent => z.1) e)
    rw [decide_eq_false hn]
    simp [go_sem, beq_ne h0]
  subst h0
  by_cases h1 : pk = pk2
  rotate_left
  · have hn : ¬ ((S, ⟨pk, pg, ps, pq, pp⟩, ⟨lt, li, lc⟩) : Ent) = (S, ⟨pk2, pg2, ps2, pq2, pp2⟩, ⟨lt2, li2, lc2⟩) := fun e => h1 (by simpa using congrArg (fun z : Ent => z.2.1.k) e)
    rw [decide_eq_false hn]
    simp [go_sem, h1]
  subst h1
  by_cases h2 : pg = pg2
  rotate_left
  · have hn : ¬ ((S, ⟨pk, pg, ps, pq, pp⟩, ⟨lt, li, lc⟩) : Ent) = (S, ⟨pk, pg2, ps2, pq2, pp2⟩, ⟨lt2, li2, lc2⟩) := fun e => h2 (by simpa using congrArg (fun z : Ent => z.2.1.g) e)
    rw [decide_eq_false hn]
    have hi : ¬ ((pg : Int) = (pg2 : Int)) := by omega
    simp [go_sem, h2, hi]
  subst h2
  by_cases h3 : ps = ps2
  rotate_left
  · have hn : ¬ ((S, ⟨pk, pg, ps, pq, pp⟩, ⟨lt, li, lc⟩) : Ent) = (S, ⟨pk, pg, ps2, pq2, pp2⟩, ⟨lt2, li2, lc2⟩) := fun e => h3 (by simpa using congrArg (fun z : Ent => z.2.1.s) e)
    rw [decide_eq_false hn]
    have hi : ¬ ((ps : Int) = (ps2 : Int)) := by omega
    simp [go_sem, h3, hi]
  subst h3
  by_cases h4 : pq = pq2
  rotate_left
  · have hn : ¬ ((S, ⟨pk, pg, ps, pq, pp⟩, ⟨lt, li, lc⟩) : Ent) = (S, ⟨pk, pg, ps, pq2, pp2⟩, ⟨lt2, li2, lc2⟩) := fun e => h4 (by simpa using congrArg (fun z : Ent => z.2.1.l) e)
    rw [decide_eq_false hn]
    have hi : ¬ ((pq : Int) = (pq2 : Int)) := by omega
    simp [go_sem, h4, hi]
  subst h4
  by_cases h5 : pp = pp2
  rotate_left
  · have hn : ¬ ((S, ⟨pk, pg, ps, pq, pp⟩, ⟨lt, li, lc⟩) : Ent) = (S, ⟨pk, pg, ps, pq, pp2⟩, ⟨lt2, li2, lc2⟩) := fun e => h5 (by simpa using congrArg (fun z : Ent => z.2.1.p) e)
    rw [decide_eq_false hn]
    have hi : ¬ ((pp : Int) = (pp2 : Int)) := by omega
    simp [go_sem, h5, hi]
  subst h5
  by_cases h6 : lt = lt2
  rotate_left
  · have hn : ¬ ((S, ⟨pk, pg, ps, pq, pp⟩, ⟨lt, li, lc⟩) : Ent) = (S, ⟨pk, pg, ps, pq, pp⟩, ⟨lt2, li2, lc2⟩) := fun e => h6 (by simpa using congrArg (fun z : Ent => z.2.2.t) e)
    rw [decide_eq_false hn]
    have hi : ¬ ((lt : Int) = (lt2 : Int)) := by omega
    simp [go_sem, h6, hi]
  subst h6
  by_cases h7 : li = li2
  rotate_left
  · have hn : ¬ ((S, ⟨pk, pg, ps, pq, pp⟩, ⟨lt, li, lc⟩) : Ent) = (S, ⟨pk, pg, ps, pq, pp⟩, ⟨lt, li2, lc2⟩) := fun e => h7 (by simpa using congrArg (fun z : Ent => z.2.2.i) e)
    rw [decide_eq_false hn]
    have hi : ¬ ((li : Int) = (li2 : Int)) := by omega
    simp [go_sem, h7, hi]
  subst h7
  by_cases h8 : lc = lc2
  rotate_left
  · have hn : ¬ ((S, ⟨pk, pg, ps, pq, pp⟩, ⟨lt, li, lc⟩) : Ent) = (S, ⟨pk, pg, ps, pq, pp⟩, ⟨lt, li, lc2⟩) := fun e => h8 (by simpa using congrArg (fun z : Ent => z.2.2.c) e)
    rw [decide_eq_false hn]
    have hi : ¬ ((lc : Int) = (lc2 : Int)) := by omega
    simp [go_sem, h8, hi]
  subst h8
  rw [show decide (((S, ⟨pk, pg, ps, pq, pp⟩, ⟨lt, li, lc⟩) : Ent) = (S, ⟨pk, pg, ps, pq, pp⟩, ⟨lt, li, lc⟩)) = true from decide_eq_true rfl]
  simp [go_sem]
end Go.Proofs.YtdddfapelencoaaDoor

set_option linter.unusedVariables false
set_option linter.unusedSimpArgs false
namespace Go.Proofs.YtdddfapelencoaaDoor
open Go Go.RowKit

theorem SlE.hereV {w : World} {a : Option Addr} {N c : Nat} {xs : List Ent} (h : SlE w (.slice a N c) xs) (hne : xs ≠ []) : ∃ b o, a = some ⟨b, o, none⟩ ∧ EntsAt w b o xs := by
  obtain ⟨ao, cap, e, _, _, hx⟩ := h
  simp only [Value.slice.injEq] at e
  obtain ⟨rfl, _, _⟩ := e
  exact hx hne
theorem EntsAt.atV? {w : World} {b o : Nat} {xs : List Ent} (h : EntsAt w b o xs) {i : Nat} {x : Ent} (hi : xs[i]? = some x) : EntAt w b (o + i * 9) x := by
  obtain ⟨hl, rfl⟩ := List.getElem?_eq_some_iff.1 hi
  exact h.at i hl
theorem EntAt.upV {w w' : World} {b o : Nat} {x : Ent} (h : EntAt w b o x) (k : Up w w') : EntAt w' b o x := by
  have c : ∀ a v, w.cell? a = some v → w'.cell? a = some v := fun a v e => (k.cell (World.block_lt_of_cell? w _ e)).trans e
  obtain ⟨h0, h1, h2, h3, h4, h5, h6, h7, h8⟩ := h
  exact ⟨c _ _ h0, c _ _ h1, c _ _ h2, c _ _ h3, c _ _ h4, c _ _ h5, c _ _ h6, c _ _ h7, c _ _ h8⟩

set_option maxRecDepth 20000 in
set_option maxHeartbeats 1600000 in
theorem rBefore_any (S T : ByteArray) (w : World) (h1 : S.size ≤ 9223372036854775807) (h2 : T.size ≤ 9223372036854775807) :
    Calls Tryd.prog 24 #[.string S, .string T] w fun e w' => e = .returned (.bool (kl S T)) ∧ Up w w' := by
  obtain ⟨q, hq⟩ : ∃ q, kl S T = q := ⟨_, rfl⟩
  rw [hq]
  have HQ : Hid (kl S T = q) := hq
  obtain ⟨N, hN⟩ : ∃ N, S.size = N := ⟨_, rfl⟩
  obtain ⟨M, hM⟩ : ∃ M, T.size = M := ⟨_, rfl⟩
  have hS : S.data.toList.length = N := hN
  have hT : T.data.toList.length = M := hM
  have g1 : (N : Int) ≤ 9223372036854775807 := by omega
  have g2 : (M : Int) ≤ 9223372036854775807 := by omega
  clear hq
  go_enter Tryd.func24, Tryd.ntmps24
  go_wp2
  go_loopg [5] (min N M) (fun g i wr => ∃ k : Nat, k ≤ min N M ∧ g = min N M - k ∧ i = .int .i64 k ∧ Hid (Up w wr ∧ S.data.toList.take k = T.data.toList.take k))
  case atStart => exact ⟨0, by omega, rfl, rfl, Up.refl _, rfl⟩
  case round =>
    obtain ⟨k, hk, rfl, rfl, HR⟩ := hrel
    by_cases hlt : k < min N M
    · have l1 : k < S.data.toList.length := by omega
      have l2 : k < T.data.toList.length := by omega
      have k1 : k < N := by omega
      have k2 : k < M := by omega
      have q1 : k < S.size := by omega
      have q2 : k < T.size := by omega
      have HK : Hid (min N M - (k + 1) < min N M - k ∧ k + 1 ≤ min N M) := ⟨by omega, by omega⟩
      have HT : Hid (S.data.toList[k] = T.data.toList[k] → S.data.toList.take (k + 1) = T.data.toList.take (k + 1)) := fun e => by rw [List.take_succ_eq_append_getElem l1, List.take_succ_eq_append_getElem l2, HR.out.2, e]
      have HL : Hid (S.data.toList[k] ≠ T.data.toList[k] → kl S T = decide (S.data.toList[k] < T.data.toList[k])) := fun e => kl_at l1 l2 HR.out.2 e
      have a1 : S.data.toList[k] = S[k] := by rw [Array.getElem_toList]; rfl
      have a2 : T.data.toList[k] = T[k] := by rw [Array.getElem_toList]; rfl
      rw [a1, a2] at HT HL
      clear a1 a2 l1 l2 hk hlt
      by_cases he : S[k] = T[k]
      · have HT2 : Hid (S.data.toList.take (k + 1) = T.data.toList.take (k + 1)) := HT.out he
        have hb : ((S[k].toNat : Int) != (T[k].toNat : Int)) = false := by rw [he]; simp
        clear HT HL he HQ
        go_wp2_with fail
        go_quiet (fail)
        go_wp2
        go_roundg (min N M - (k + 1))
        case measure => exact HK.out.1
        case rel => exact ⟨k + 1, HK.out.2, rfl, by go_num, HR.out.1.trans (up_drewN _ _), HT2.out⟩
      · have hne : ¬ S[k].toNat = T[k].toNat := fun e => he (UInt8.toNat_inj.1 e)
        have hb : ((S[k].toNat : Int) != (T[k].toNat : Int)) = true := by simp only [bne_iff_ne, ne_eq]; omega
        have hv : q = decide (S[k].toNat < T[k].toNat) := by rw [← HQ.out, HL.out he]; rfl
        have HV : Hid (q = decide (S[k].toNat < T[k].toNat)) := hv
        clear HT HL he HQ hne hv
        go_wp2_with fail
        go_quiet (fail)
        go_wp2_with fail
        go_quiet (fail)
        go_wp2
        go_ret
        exact ⟨by rw [HV.out]; simp, HR.out.1.trans ((up_drewN _ _).trans (up_drewN _ _))⟩
    · obtain rfl : k = min N M := by omega
      have hv : q = decide (N < M) := by rw [← HQ.out, kl_end HR.out.2 (by rw [hS, hT]), hS, hT]
      have HV : Hid (q = decide (N < M)) := hv
      have HU : Hid (Up w wr) := HR.out.1
      clear hv HQ HR hlt hk
      rcases Nat.lt_or_ge M N with c | c
      · rw [Nat.min_eq_right (by omega)]
        have k1 : M < N := c
        have k2 : ¬ N < M := by omega
        go_wp2
        go_ret
        exact ⟨by rw [HV.out]; simp; omega, HU.out⟩
      · rw [Nat.min_eq_left (by omega)]
        go_wp2
        go_ret
        exact ⟨by rw [HV.out]; simp, HU.out⟩
end Go.Proofs.YtdddfapelencoaaDoor

set_option linter.unusedVariables false
set_option linter.unusedSimpArgs false
namespace Go.Proofs.YtdddfapelencoaaDoor
open Go Go.RowKit

theorem beq_dec (a b : ByteArray) : (a.toList == b.toList) = decide (a = b) := by
  by_cases h : a = b
  · subst h; simp
  · rw [beq_ne h, decide_eq_false h]
/-- The first place whose key isn't ahead of k. -/
theorem first_pl {xs : List Ent} (h : Srt xs) {k : ByteArray} {i : Nat} (hi : i < xs.length) (ha : ∀ j (hj : j < xs.length), j < i → kl xs[j].1 k = true) (hn : kl xs[i].1 k = false) :
    i = pl k xs ∧ decide (xs[i].1 = k) = (getL k xs).isSome := by
  have e1 := at_pl h k i hi
  rw [hn] at e1
  have e2 : ¬ i < pl k xs := by simpa using e1.symm
  have e3 : i = pl k xs := by
    rcases Nat.lt_or_ge (pl k xs) i with c | c
    · have e4 := at_pl h k (pl k xs) (by omega)
      rw [ha _ (by omega) c] at e4
      simp at e4
    · omega
  subst e3
  exact ⟨rfl, ((here_pl h k hi).1).symm⟩
theorem none_first {xs : List Ent} (h : Srt xs) {k : ByteArray} (ha : ∀ j (hj : j < xs.length), kl xs[j].1 k = true) : xs.length = pl k xs ∧ (getL k xs).isSome = false := by
  have hp : xs.length = pl k xs := by
    have := pl_le k xs
    rcases Nat.lt_or_ge (pl k xs) xs.length with c | c
    · have e := at_pl h k (pl k xs) c
      rw [ha _ c] at e
      simp at e
    · omega
  exact ⟨hp, by rw [none_pl h k (by omega)]; rfl⟩

set_option maxRecDepth 20000 in
set_option maxHeartbeats 1600000 in
theorem rFind_any (v : Value) (l f : Nat) (xs : List Ent) (k : ByteArray) (w : World) (h : SlE w v xs) (hl : xs.length ≤ 140737488355328) (hks : k.size ≤ 9223372036854775807) (hxs : ∀ x ∈ xs, x.1.size ≤ 9223372036854775807) :
    Calls Tryd.prog 10 #[.agg #[V l, V f, v], .string k] w fun e w' => ∃ (i : Nat) (o : Bool), e = .returned (.tuple #[.int .i64 (i : Int), .bool o]) ∧ (i ≤ xs.length ∧ (Srt xs → i = pl k xs ∧ o = (getL k xs).isSome)) ∧ Up w w' := by
  have HB : Hid (∀ x ∈ xs, ∀ u, Calls Tryd.prog 24 #[.string x.1, .string k] u fun e w' => e = .returned (.bool (kl x.1 k)) ∧ Up u w') := fun x hx u => rBefore_any x.1 k u (hxs x hx) hks
  obtain ⟨ao, cap, rfl⟩ := h.shape
  obtain ⟨N, hN⟩ : ∃ N, xs.length = N := ⟨_, rfl⟩
  rw [hN] at h hl ⊢
  have HN : Hid (xs.length = N) := hN
  have HX : Hid (SlE w (.slice ao N cap) xs) := h
  have hl1 : (N : Int) ≤ 140737488355328 := by omega
  have b0 : Box (w.alloc (.cells #[V l, V f, .slice ao N cap] 27)) w.heap.size #[V l, V f, .slice ao N cap] := Box.new _ _ _
  have u0 : Up w (w.alloc (.cells #[V l, V f, .slice ao N cap] 27)) := Up.alloc _ _
  clear hN h hks hxs
  go_enter Tryd.func10, Tryd.ntmps10
  go_upto_region 1 with fail
  generalize w.alloc (.cells #[V l, V f, .slice ao N cap] 27) = w0 at *
  generalize w.heap.size = B at *
  have H0 : Hid (Up w w0 ∧ Box w0 B #[V l, V f, .slice ao N cap]) := ⟨u0, b0⟩
  clear b0 u0
  go_wp2
  go_loopg [6] N (fun g i wr => ∃ j : Nat, j ≤ N ∧ g = N - j ∧ i = .int .i64 j ∧ Hid ((Up w wr ∧ Box wr B #[V l, V f, .slice ao N cap]) ∧ ∀ m (hm : m < xs.length), m < j → kl xs[m].1 k = true))
  case atStart => exact ⟨0, by omega, rfl, rfl, H0.out, fun m hm c => by omega⟩
  case round =>
    obtain ⟨j, hj, rfl, rfl, HR⟩ := hrel
    obtain ⟨s0, s1, s2⟩ := HR.out.1.2.c3
    by_cases hlt : j < N
    · have hm : j < xs.length := by rw [HN.out]; exact hlt
      obtain ⟨b, o, rfl, ha⟩ := (HX.out.up HR.out.1.1).hereV (by rintro rfl; simp at hm)
      have c0 := (ha.at j hm).1
      have hB := HB.out xs[j] (List.getElem_mem hm)
      have HK : Hid (N - (j + 1) < N - j ∧ j + 1 ≤ N) := ⟨by omega, hlt⟩
      have HF : Hid (kl xs[j].1 k = false → Srt xs → j = pl k xs ∧ decide (xs[j].1 = k) = (getL k xs).isSome) := fun e hs => first_pl hs hm HR.out.2 e
      have HM : Hid (kl xs[j].1 k = true → ∀ m (hm : m < xs.length), m < j + 1 → kl xs[m].1 k = true) := fun e m hm' c => by
        rcases Nat.lt_or_ge m j with c1 | c1
        · exact HR.out.2 m hm' c1
        · obtain rfl : m = j := by omega
          exact e
      generalize xs[j].1 = S at *
      have HBS : Hid (∀ u, Calls Tryd.prog 24 #[.string S, .string k] u fun e w' => e = .returned (.bool (kl S k)) ∧ Up u w') := hB
      clear hB ha hm hj HB
      obtain ⟨q, hq⟩ : ∃ q, kl S k = q := ⟨_, rfl⟩
      rw [hq] at HBS HF HM
      clear hq
      go_wp2_with fail
      refine (HBS.out _).mono ?_
      rintro e w1 ⟨rfl, u1⟩
      have b1 := HR.out.1.2.up u1
      have c1 : w1.cell? ⟨b, o + j * 9, none⟩ = some (.string S) := (u1.cell (World.block_lt_of_cell? _ _ c0)).trans c0
      have HU : Hid (Up w w1) := HR.out.1.1.trans u1
      have HB1 : Hid (Box w1 B #[V l, V f, .slice (some ⟨b, o, none⟩) N cap]) := b1
      clear s0 s1 s2 c0 u1 b1 HBS
      obtain ⟨s0, s1, s2⟩ := HB1.out.c3
      cases q with
      | true =>
        clear HF c1
        go_wp2
        go_roundg (N - (j + 1))
        case measure => exact HK.out.1
        case rel => exact ⟨j + 1, HK.out.2, rfl, by go_num, ⟨HU.out, HB1.out⟩, HM.out trivial⟩
      | false =>
        clear HM
        go_wp2_with fail
        go_quiet (fail)
        go_wp2
        exact bodyPost_ret (v := .tuple #[.int .i64 (j : Int), .bool (decide (S = k))]) (by simp [results, Tryd.results10, go_sem]; exact beq_dec S k) rfl ⟨j, decide (S = k), rfl, ⟨by have := HK.out; omega, HF.out trivial⟩, HU.out.trans (up_drewN _ _)⟩
    · obtain rfl : j = N := by omega
      have HF : Hid (Srt xs → j = pl k xs ∧ false = (getL k xs).isSome) := fun hs => by
        have := none_first hs (fun m hm => HR.out.2 m hm (by have := HN.out; omega))
        exact ⟨HN.out.symm.trans this.1, this.2.symm⟩
      have HU : Hid (Up w wr) := HR.out.1.1
      clear HR HB HX H0
      go_wp2
      exact bodyPost_ret (v := .tuple #[.int .i64 (j : Int), .bool false]) (by simp [results, Tryd.results10, go_sem]) rfl ⟨j, false, rfl, ⟨Nat.le_refl _, HF.out⟩, HU.out⟩
end Go.Proofs.YtdddfapelencoaaDoor

set_option linter.unusedVariables false
set_option linter.unusedSimpArgs false
namespace Go.Proofs.YtdddfapelencoaaDoor
open Go Go.RowKit

set_option maxRecDepth 20000 in
set_option maxHeartbeats 1600000 in
theorem requal_any (va vb : Value) (l f l' f' : Nat) (xs ys : List Ent) (w : World) (ha : SlE w va xs) (hb : SlE w vb ys) (hl : xs.length ≤ 140737488355328) (hl2 : ys.length ≤ 140737488355328) :
    Calls Tryd.prog 12 #[.agg #[V l, V f, va], .agg #[V l', V f', vb]] w fun e w' => e = .returned (.bool (decide ((⟨l, f, xs⟩ : StV) = ⟨l', f', ys⟩))) ∧ Up w w' := by
  obtain ⟨q, hq⟩ : ∃ q, decide ((⟨l, f, xs⟩ : StV) = ⟨l', f', ys⟩) = q := ⟨_, rfl⟩
  rw [hq]
  obtain ⟨ao, ac, rfl⟩ := ha.shape
  obtain ⟨bo, bc, rfl⟩ := hb.shape
  obtain ⟨N, hN⟩ : ∃ N, xs.length = N := ⟨_, rfl⟩
  obtain ⟨M, hM⟩ : ∃ M, ys.length = M := ⟨_, rfl⟩
  rw [hN] at ha hl ⊢
  rw [hM] at hb hl2 ⊢
  have HN : Hid (xs.length = N ∧ ys.length = M) := ⟨hN, hM⟩
  have HQ : Hid (decide ((⟨l, f, xs⟩ : StV) = ⟨l', f', ys⟩) = q) := hq
  have HX : Hid (SlE w (.slice ao N ac) xs ∧ SlE w (.slice bo M bc) ys) := ⟨ha, hb⟩
  have hl1 : (N : Int) ≤ 140737488355328 := by omega
  have hl3 : (M : Int) ≤ 140737488355328 := by omega
  clear hN hM hq ha hb
  have b0 : Box ((w.alloc (.cells #[V l, V f, .slice ao N ac] 27)).alloc (.cells #[V l', V f', .slice bo M bc] 27)) w.heap.size #[V l, V f, .slice ao N ac] := (Box.new _ _ _).alloc _
  have b1 : Box ((w.alloc (.cells #[V l, V f, .slice ao N ac] 27)).alloc (.cells #[V l', V f', .slice bo M bc] 27)) (w.heap.size + 1) #[V l', V f', .slice bo M bc] := Box.newAt (by simp)
  have u0 : Up w ((w.alloc (.cells #[V l, V f, .slice ao N ac] 27)).alloc (.cells #[V l', V f', .slice bo M bc] 27)) := (Up.alloc _ _).trans (Up.alloc _ _)
  go_enter Tryd.func12, Tryd.ntmps12
  go_upto_region 1 with fail
  generalize (w.alloc (.cells #[V l, V f, .slice ao N ac] 27)).alloc (.cells #[V l', V f', .slice bo M bc] 27) = w0 at *
  generalize w.heap.size = B at *
  have HB0 : Hid (Up w w0 ∧ Box w0 B #[V l, V f, .slice ao N ac] ∧ Box w0 (B + 1) #[V l', V f', .slice bo M bc]) := ⟨u0, b0, b1⟩
  obtain ⟨s0, s1, s2⟩ := b0.c3
  obtain ⟨t0, t1, t2⟩ := b1.c3
  clear b0 b1 u0
  by_cases h1 : l = l'
  rotate_left
  · have hfin : q = false := by rw [← HQ.out]; exact decide_eq_false (by simp [h1])
    subst hfin
    have h1' : ¬ (l : Int) = (l' : Int) := by omega
    clear HQ HX HN h1
    go_wp2
    go_ret
    exact ⟨rfl, HB0.out.1⟩
  subst h1
  by_cases h2 : f = f'
  rotate_left
  · have hfin : q = false := by rw [← HQ.out]; exact decide_eq_false (by simp [h2])
    subst hfin
    have h2' : ¬ (f : Int) = (f' : Int) := by omega
    clear HQ HX HN h2
    go_wp2
    go_ret
    exact ⟨rfl, HB0.out.1⟩
  subst h2
  by_cases h3 : N = M
  rotate_left
  · have hfin : q = false := by
      rw [← HQ.out]
      refine decide_eq_false (fun e => h3 ?_)
      have := HN.out
      simp only [StV.mk.injEq, true_and] at e
      rw [e] at this
      omega
    subst hfin
    have h3' : ¬ (N : Int) = (M : Int) := by omega
    clear HQ HX HN h3
    go_wp2
    go_ret
    exact ⟨rfl, HB0.out.1⟩
  subst h3
  go_wp2
  clear s0 s1 s2 t0 t1 t2
  go_loopg [5] N (fun g i wr => ∃ k : Nat, k ≤ N ∧ g = N - k ∧ i = .int .i64 k ∧ Hid ((Up w wr ∧ Box wr B #[V l, V f, .slice ao N ac] ∧ Box wr (B + 1) #[V l, V f, .slice bo N bc]) ∧ xs.take k = ys.take k))
  case atStart => exact ⟨0, by omega, rfl, rfl, HB0.out, rfl⟩
  case round =>
    obtain ⟨k, hk, rfl, rfl, HR⟩ := hrel
    obtain ⟨s0, s1, s2⟩ := HR.out.1.2.1.c3
    obtain ⟨t0, t1, t2⟩ := HR.out.1.2.2.c3
    by_cases hlt : k < N
    · have hm : k < xs.length := by rw [HN.out.1]; exact hlt
      have hm2 : k < ys.length := by rw [HN.out.2]; exact hlt
      obtain ⟨b, o, rfl, ha⟩ := (HX.out.1.up HR.out.1.1).hereV (by rintro rfl; simp at hm)
      obtain ⟨b', o', rfl, hb⟩ := (HX.out.2.up HR.out.1.1).hereV (by rintro rfl; simp at hm2)
      obtain ⟨c0, c1, c2, c3, c4, c5, c6, c7, c8⟩ := ha.at k hm
      obtain ⟨d0, d1, d2, d3, d4, d5, d6, d7, d8⟩ := hb.at k hm2
      have hne := fun u => ent_neq xs[k] ys[k] u
      have HK : Hid (N - (k + 1) < N - k ∧ k + 1 ≤ N) := ⟨by omega, hlt⟩
      have HT : Hid (xs[k] = ys[k] → xs.take (k + 1) = ys.take (k + 1)) := fun e => by rw [List.take_succ_eq_append_getElem hm, List.take_succ_eq_append_getElem hm2, HR.out.2, e]
      have HD : Hid (xs ≠ ys ∨ xs[k] = ys[k]) := by
        by_cases e : xs[k] = ys[k]
        · exact .inr e
        · refine .inl (fun h => e ?_)
          simp only [h]
      by_cases hxy : xs[k] = ys[k]
      · have HT2 : Hid (xs.take (k + 1) = ys.take (k + 1)) := HT.out hxy
        generalize xs[k] = x at *
        generalize ys[k] = y at *
        subst hxy
        rw [show decide (¬ x = x) = false from decide_eq_false (by simp)] at hne
        obtain ⟨S, ⟨pk, pg, ps, pq, pp⟩, lt, li, lc⟩ := x
        simp only at c0 c1 c2 c3 c4 c5 c6 c7 c8 d0 d1 d2 d3 d4 d5 d6 d7 d8 hne
        clear ha hb hm hm2 hk HX HB0 HT HD HQ
        go_wp2_with fail
        go_quiet (fail)
        go_wp2
        go_roundg (N - (k + 1))
        case measure => exact HK.out.1
        case rel => exact ⟨k + 1, HK.out.2, rfl, by go_num, ⟨HR.out.1.1.trans (up_drewN _ _), HR.out.1.2.1.up (up_drewN _ _), HR.out.1.2.2.up (up_drewN _ _)⟩, HT2.out⟩
      · have hfin : q = false := by
          rw [← HQ.out]
          refine decide_eq_false (fun e => ?_)
          simp only [StV.mk.injEq, true_and] at e
          rcases HD.out with h | h
          · exact h e
          · exact hxy h
        subst hfin
        generalize xs[k] = x at *
        generalize ys[k] = y at *
        rw [show decide (¬ x = y) = true from decide_eq_true hxy] at hne
        obtain ⟨S, ⟨pk, pg, ps, pq, pp⟩, lt, li, lc⟩ := x
        obtain ⟨S2, ⟨pk2, pg2, ps2, pq2, pp2⟩, lt2, li2, lc2⟩ := y
        simp only at c0 c1 c2 c3 c4 c5 c6 c7 c8 d0 d1 d2 d3 d4 d5 d6 d7 d8 hne
        clear ha hb hm hm2 hk HX HB0 HT HD HQ hxy
        go_wp2_with fail
        go_quiet (fail)
        go_wp2
        go_ret
        exact ⟨rfl, HR.out.1.1.trans (up_drewN _ _)⟩
    · obtain rfl : k = N := by omega
      have hfin : q = true := by
        rw [← HQ.out]
        have e := HR.out.2
        rw [List.take_of_length_le (by have := HN.out; omega), List.take_of_length_le (by have := HN.out; omega)] at e
        exact decide_eq_true (by rw [e])
      subst hfin
      have HU : Hid (Up w wr) := HR.out.1.1
      clear HR HX HB0 HQ
      go_wp2
      go_ret
      exact ⟨rfl, HU.out⟩
end Go.Proofs.YtdddfapelencoaaDoor

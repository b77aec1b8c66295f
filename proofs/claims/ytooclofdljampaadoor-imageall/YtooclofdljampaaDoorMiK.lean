/- Merged: StEq, ImLaw. -/
import Derived.Test.YtooclofdljampaaDoorStFind
import Derived.Test.YtooclofdljampaaDoorMiF
import Derived.Test.YtooclofdljampaaDoorMiG
set_option linter.unusedVariables false
set_option linter.unusedSimpArgs false
namespace Go.Proofs.YtooclofdljampaaDoor
open Go Go.RowKit

set_option maxHeartbeats 1600000 in
theorem ent_neq (x y : Ent) (u : World) : (binOp .neq 50 (EV x) (EV y)).run Tryd.prog u = .ok (.bool (decide (¬ x = y))) u := by
  obtain ⟨S, ⟨pk, pg, ps, pq, pp⟩, lt, li, lc⟩ := x
  obtain ⟨S2, ⟨pk2, pg2, ps2, pq2, pp2⟩, lt2, li2, lc2⟩ := y
  by_cases h0 : S = S2
  rotate_left
  · have hn : ¬ ((S, ⟨pk, pg, ps, pq, pp⟩, ⟨lt, li, lc⟩) : Ent) = (S2, ⟨pk2, pg2, ps2, pq2, pp2⟩, ⟨lt2, li2, lc2⟩) := fun e => h0 (by simpa using congrArg (fun z : Ent => z.1) e)
    rw [decide_eq_true hn]
    simp [go_sem, beq_ne h0]
  subst h0
  by_cases h1 : pk = pk2
  rotate_left
  · have hn : ¬ ((S, ⟨pk, pg, ps, pq, pp⟩, ⟨lt, li, lc⟩) : Ent) = (S, ⟨pk2, pg2, ps2, pq2, pp2⟩, ⟨lt2, li2, lc2⟩) := fun e => h1 (by simpa using congrArg (fun z : Ent => z.2.1.k) e)
    rw [decide_eq_true hn]
    simp [go_sem, h1]
  subst h1
  by_cases h2 : pg = pg2
  rotate_left
  · have hn : ¬ ((S, ⟨pk, pg, ps, pq, pp⟩, ⟨lt, li, lc⟩) : Ent) = (S, ⟨pk, pg2, ps2, pq2, pp2⟩, ⟨lt2, li2, lc2⟩) := fun e => h2 (by simpa using congrArg (fun z : Ent => z.2.1.g) e)
    rw [decide_eq_true hn]
    have hi : ¬ ((pg : Int) = (pg2 : Int)) := by omega
    simp [go_sem, h2, hi]
  subst h2
  by_cases h3 : ps = ps2
  rotate_left
  · have hn : ¬ ((S, ⟨pk, pg, ps, pq, pp⟩, ⟨lt, li, lc⟩) : Ent) = (S, ⟨pk, pg, ps2, pq2, pp2⟩, ⟨lt2, li2, lc2⟩) := fun e => h3 (by simpa using congrArg (fun z : Ent => z.2.1.s) e)
    rw [decide_eq_true hn]
    have hi : ¬ ((ps : Int) = (ps2 : Int)) := by omega
    simp [go_sem, h3, hi]
  subst h3
  by_cases h4 : pq = pq2
  rotate_left
  · have hn : ¬ ((S, ⟨pk, pg, ps, pq, pp⟩, ⟨lt, li, lc⟩) : Ent) = (S, ⟨pk, pg, ps, pq2, pp2⟩, ⟨lt2, li2, lc2⟩) := fun e => h4 (by simpa using congrArg (fun z : Ent => z.2.1.l) e)
    rw [decide_eq_true hn]
    have hi : ¬ ((pq : Int) = (pq2 : Int)) := by omega
    simp [go_sem, h4, hi]
  subst h4
  by_cases h5 : pp = pp2
  rotate_left
  · have hn : ¬ ((S, ⟨pk, pg, ps, pq, pp⟩, ⟨lt, li, lc⟩) : Ent) = (S, ⟨pk, pg, ps, pq, pp2⟩, ⟨lt2, li2, lc2⟩) := fun e => h5 (by simpa using congrArg (fun z : Ent => z.2.1.p) e)
    rw [decide_eq_true hn]
    have hi : ¬ ((pp : Int) = (pp2 : Int)) := by omega
    simp [go_sem, h5, hi]
  subst h5
  by_cases h6 : lt = lt2
  rotate_left
  · have hn : ¬ ((S, ⟨pk, pg, ps, pq, pp⟩, ⟨lt, li, lc⟩) : Ent) = (S, ⟨pk, pg, ps, pq, pp⟩, ⟨lt2, li2, lc2⟩) := fun e => h6 (by simpa using congrArg (fun z : Ent => z.2.2.t) e)
    rw [decide_eq_true hn]
    have hi : ¬ ((lt : Int) = (lt2 : Int)) := by omega
    simp [go_sem, h6, hi]
  subst h6
  by_cases h7 : li = li2
  rotate_left
  · have hn : ¬ ((S, ⟨pk, pg, ps, pq, pp⟩, ⟨lt, li, lc⟩) : Ent) = (S, ⟨pk, pg, ps, pq, pp⟩, ⟨lt, li2, lc2⟩) := fun e => h7 (by simpa using congrArg (fun z : Ent => z.2.2.i) e)
    rw [decide_eq_true hn]
    have hi : ¬ ((li : Int) = (li2 : Int)) := by omega
    simp [go_sem, h7, hi]
  subst h7
  by_cases h8 : lc = lc2
  rotate_left
  · have hn : ¬ ((S, ⟨pk, pg, ps, pq, pp⟩, ⟨lt, li, lc⟩) : Ent) = (S, ⟨pk, pg, ps, pq, pp⟩, ⟨lt, li, lc2⟩) := fun e => h8 (by simpa using congrArg (fun z : Ent => z.2.2.c) e)
    rw [decide_eq_true hn]
    have hi : ¬ ((lc : Int) = (lc2 : Int)) := by omega
    simp [go_sem, h8, hi]
  subst h8
  rw [show decide (¬ (((S, ⟨pk, pg, ps, pq, pp⟩, ⟨lt, li, lc⟩) : Ent) = (S, ⟨pk, pg, ps, pq, pp⟩, ⟨lt, li, lc⟩))) = false from decide_eq_false (fun h => h rfl)]
  simp [go_sem]

set_option maxHeartbeats 1600000 in
theorem ent_eql (x y : Ent) (u : World) : (binOp .eql 50 (EV x) (EV y)).run Tryd.prog u = .ok (.bool (decide (x = y))) u := by
  obtain ⟨S, ⟨pk, pg, ps, pq, pp⟩, lt, li, lc⟩ := x
  obtain ⟨S2, ⟨pk2, pg2, ps2, pq2, pp2⟩, lt2, li2, lc2⟩ := y
  by_cases h0 : S = S2
  rotate_left
  · have hn : ¬ ((S, ⟨pk, pg, ps, pq, pp⟩, ⟨lt, li, lc⟩) : Ent) = (S2, ⟨pk2, pg2, ps2, pq2, pp2⟩, ⟨lt2, li2, lc2⟩) := fun e => h0 (by simpa using congrArg (fun z : Ent => z.1) e)
    rw [decide_eq_false hn]
    simp [go_sem, beq_ne h0]
  subst h0
  by_cases h1 : pk = pk2
  rotate_left
  · have hn : ¬ ((S, ⟨pk, pg, ps, pq, pp⟩, ⟨lt, li, lc⟩) : Ent) = (S, ⟨pk2, pg2, ps2, pq2, pp2⟩, ⟨lt2, li2, lc2⟩) := fun e => h1 (by simpa using congrArg (fun z : Ent => z.2.1.k) e)
    rw [decide_eq_false hn]
    simp [go_sem, h1]
  subst h1
  by_cases h2 : pg = pg2
  rotate_left
  · have hn : ¬ ((S, ⟨pk, pg, ps, pq, pp⟩, ⟨lt, li, lc⟩) : Ent) = (S, ⟨pk, pg2, ps2, pq2, pp2⟩, ⟨lt2, li2, lc2⟩) := fun e => h2 (by simpa using congrArg (fun z : Ent => z.2.1.g) e)
    rw [decide_eq_false hn]
    have hi : ¬ ((pg : Int) = (pg2 : Int)) := by omega
    simp [go_sem, h2, hi]
  subst h2
  by_cases h3 : ps = ps2
  rotate_left
  · have hn : ¬ ((S, ⟨pk, pg, ps, pq, pp⟩, ⟨lt, li, lc⟩) : Ent) = (S, ⟨pk, pg, ps2, pq2, pp2⟩, ⟨lt2, li2, lc2⟩) := fun e => h3 (by simpa using congrArg (fun z : Ent => z.2.1.s) e)
    rw [decide_eq_false hn]
    have hi : ¬ ((ps : Int) = (ps2 : Int)) := by omega
    simp [go_sem, h3, hi]
  subst h3
  by_cases h4 : pq = pq2
  rotate_left
  · have hn : ¬ ((S, ⟨pk, pg, ps, pq, pp⟩, ⟨lt, li, lc⟩) : Ent) = (S, ⟨pk, pg, ps, pq2, pp2⟩, ⟨lt2, li2, lc2⟩) := fun e => h4 (by simpa using congrArg (fun z : Ent => z.2.1.l) e)
    rw [decide_eq_false hn]
    have hi : ¬ ((pq : Int) = (pq2 : Int)) := by omega
    simp [go_sem, h4, hi]
  subst h4
  by_cases h5 : pp = pp2
  rotate_left
  · have hn : ¬ ((S, ⟨pk, pg, ps, pq, pp⟩, ⟨lt, li, lc⟩) : Ent) = (S, ⟨pk, pg, ps, pq, pp2⟩, ⟨lt2, li2, lc2⟩) := fun e => h5 (by simpa using congrArg (fun z : Ent => z.2.1.p) e)
    rw [decide_eq_false hn]
    have hi : ¬ ((pp : Int) = (pp2 : Int)) := by omega
    simp [go_sem, h5, hi]
  subst h5
  by_cases h6 : lt = lt2
  rotate_left
  · have hn : ¬ ((S, ⟨pk, pg, ps, pq, pp⟩, ⟨lt, li, lc⟩) : Ent) = (S, ⟨pk, pg, ps, pq, pp⟩, ⟨lt2, li2, lc2⟩) := fun e => h6 (by simpa using congrArg (fun z : Ent => z.2.2.t) e)
    rw [decide_eq_false hn]
    have hi : ¬ ((lt : Int) = (lt2 : Int)) := by omega
    simp [go_sem, h6, hi]
  subst h6
  by_cases h7 : li = li2
  rotate_left
  · have hn : ¬ ((S, ⟨pk, pg, ps, pq, pp⟩, ⟨lt, li, lc⟩) : Ent) = (S, ⟨pk, pg, ps, pq, pp⟩, ⟨lt, li2, lc2⟩) := fun e => h7 (by simpa using congrArg (fun z : Ent => z.2.2.i) e)
    rw [decide_eq_false hn]
    have hi : ¬ ((li : Int) = (li2 : Int)) := by omega
    simp [go_sem, h7, hi]
  subst h7
  by_cases h8 : lc = lc2
  rotate_left
  · have hn : ¬ ((S, ⟨pk, pg, ps, pq, pp⟩, ⟨lt, li, lc⟩) : Ent) = (S, ⟨pk, pg, ps, pq, pp⟩, ⟨lt, li, lc2⟩) := fun e => h8 (by simpa using congrArg (fun z : Ent => z.2.2.c) e)
    rw [decide_eq_false hn]
    have hi : ¬ ((lc : Int) = (lc2 : Int)) := by omega
    simp [go_sem, h8, hi]
  subst h8
  rw [show decide (((S, ⟨pk, pg, ps, pq, pp⟩, ⟨lt, li, lc⟩) : Ent) = (S, ⟨pk, pg, ps, pq, pp⟩, ⟨lt, li, lc⟩)) = true from decide_eq_true rfl]
  simp [go_sem]
end Go.Proofs.YtooclofdljampaaDoor

set_option linter.unusedVariables false
set_option linter.unusedSimpArgs false
namespace Go.Proofs.YtooclofdljampaaDoor
open Go Go.RowKit

set_option maxRecDepth 20000 in
set_option maxHeartbeats 1600000 in
theorem alike_rows (va vb : Value) (l f : Nat) (xs ys : List Ent) (w : World) (ha : SlE w va xs) (hb : SlE w vb ys) (hl : xs.length ≤ 140737488355328) (hxy : ys.length = xs.length) (q : Bool) (hq : decide (xs = ys) = q) :
    Calls Tryd.prog 17 #[.agg #[V l, V f, va], .agg #[V l, V f, vb]] w fun e w' => e = .returned (.bool q) ∧ Up w w' := by
  obtain ⟨ao, ac, rfl, _, _, hx⟩ := ha
  obtain ⟨bo, bc, rfl, _, _, hy⟩ := hb
  rw [hxy]
  obtain ⟨N, hN⟩ : ∃ N, xs.length = N := ⟨_, rfl⟩
  have HN : Hid (xs.length = N ∧ ys.length = N) := ⟨hN, by omega⟩
  have HQ : Hid (decide (xs = ys) = q) := hq
  have HX : Hid ((xs ≠ [] → ∃ b o, ao = some ⟨b, o, none⟩ ∧ EntsAt w b o xs) ∧ (ys ≠ [] → ∃ b o, bo = some ⟨b, o, none⟩ ∧ EntsAt w b o ys)) := ⟨hx, hy⟩
  rw [hN] at hl ⊢
  clear hN hx hy hxy hq
  have hl1 : (N : Int) ≤ 140737488355328 := by omega
  have b0 : Box ((w.alloc (.cells #[V l, V f, .slice ao N ac] 29)).alloc (.cells #[V l, V f, .slice bo N bc] 29)) w.heap.size #[V l, V f, .slice ao N ac] := (Box.new _ _ _).alloc _
  have b1 : Box ((w.alloc (.cells #[V l, V f, .slice ao N ac] 29)).alloc (.cells #[V l, V f, .slice bo N bc] 29)) (w.heap.size + 1) #[V l, V f, .slice bo N bc] := Box.newAt (by simp)
  have u0 : Up w ((w.alloc (.cells #[V l, V f, .slice ao N ac] 29)).alloc (.cells #[V l, V f, .slice bo N bc] 29)) := (Up.alloc _ _).trans (Up.alloc _ _)
  go_enter Tryd.func17, Tryd.ntmps17
  go_upto_region 1 with fail
  generalize (w.alloc (.cells #[V l, V f, .slice ao N ac] 29)).alloc (.cells #[V l, V f, .slice bo N bc] 29) = w0 at *
  generalize w.heap.size = B at *
  have HB0 : Hid (Up w w0 ∧ Box w0 B #[V l, V f, .slice ao N ac] ∧ Box w0 (B + 1) #[V l, V f, .slice bo N bc]) := ⟨u0, b0, b1⟩
  obtain ⟨s0, s1, s2⟩ := b0.c3
  obtain ⟨t0, t1, t2⟩ := b1.c3
  clear b0 b1 u0
  go_wp2
  clear s0 s1 s2 t0 t1 t2
  go_loopg [5] N (fun g i wr => ∃ k : Nat, k ≤ N ∧ g = N - k ∧ i = .int .i64 k ∧ Hid ((Up w wr ∧ Box wr B #[V l, V f, .slice ao N ac] ∧ Box wr (B + 1) #[V l, V f, .slice bo N bc]) ∧ xs.take k = ys.take k))
  case atStart => exact ⟨0, by omega, rfl, rfl, HB0.out, rfl⟩
  case round =>
    obtain ⟨k, hk, rfl, rfl, HR⟩ := hrel
    obtain ⟨s0, s1, s2⟩ := HR.out.1.2.1.c3
    obtain ⟨t0, t1, t2⟩ := HR.out.1.2.2.c3
    by_cases hlt : k < N
    · have hm : k < xs.length := by rw [HN.out.1]; exact hlt
      have hm2 : k < ys.length := by rw [HN.out.2]; exact hlt
      obtain ⟨b, o, rfl, ha⟩ := HX.out.1 (by rintro rfl; simp at hm)
      obtain ⟨b', o', rfl, hb⟩ := HX.out.2 (by rintro rfl; simp at hm2)
      obtain ⟨c0, c1, c2, c3, c4, c5, c6, c7, c8⟩ := (ha.block fun hl => HR.out.1.1.block b hl).at k hm
      obtain ⟨d0, d1, d2, d3, d4, d5, d6, d7, d8⟩ := (hb.block fun hl => HR.out.1.1.block b' hl).at k hm2
      have hne := fun u => ent_neq xs[k] ys[k] u
      have HK : Hid (N - (k + 1) < N - k ∧ k + 1 ≤ N) := ⟨by omega, hlt⟩
      have t9 := List.take_succ_eq_append_getElem hm
      have t8 := List.take_succ_eq_append_getElem hm2
      have HY : Hid (xs[k]? = some xs[k] ∧ ys[k]? = some ys[k]) := ⟨List.getElem?_eq_getElem hm, List.getElem?_eq_getElem hm2⟩
      generalize xs[k] = x at *
      generalize ys[k] = y at *
      by_cases hxy : x = y
      · have HT : Hid (xs.take (k + 1) = ys.take (k + 1)) := by show _ = _; rw [t9, t8, HR.out.2, hxy]
        rw [show decide (¬ x = y) = false from decide_eq_false (by simp [hxy])] at hne
        clear t9 t8 HY hxy
        obtain ⟨S, ⟨pk, pg, ps, pq, pp⟩, lt, li, lc⟩ := x
        obtain ⟨S', ⟨pk', pg', ps', pq', pp'⟩, lt', li', lc'⟩ := y
        simp only at c0 c1 c2 c3 c4 c5 c6 c7 c8 d0 d1 d2 d3 d4 d5 d6 d7 d8 hne
        clear ha hb hm hm2 hk HX HB0
        go_wp2_with fail
        go_quiet (fail)
        go_wp2
        go_roundg (N - (k + 1))
        case measure => exact HK.out.1
        case rel => exact ⟨k + 1, HK.out.2, rfl, by go_num, ⟨HR.out.1.1.trans (up_drewN _ _), HR.out.1.2.1.up (up_drewN _ _), HR.out.1.2.2.up (up_drewN _ _)⟩, HT.out⟩
      · have hfin : q = false := by
          rw [← HQ.out]
          refine decide_eq_false (fun h => hxy ?_)
          have h1 := HY.out
          rw [h, h1.2] at h1
          exact (Option.some.inj h1.1).symm
        subst hfin
        rw [show decide (¬ x = y) = true from decide_eq_true hxy] at hne
        clear t9 t8 HY hxy
        obtain ⟨S, ⟨pk, pg, ps, pq, pp⟩, lt, li, lc⟩ := x
        obtain ⟨S', ⟨pk', pg', ps', pq', pp'⟩, lt', li', lc'⟩ := y
        simp only at c0 c1 c2 c3 c4 c5 c6 c7 c8 d0 d1 d2 d3 d4 d5 d6 d7 d8 hne
        clear ha hb hm hm2 hk HX HB0 HQ
        go_wp2_with fail
        go_quiet (fail)
        go_wp2
        go_ret
        exact ⟨rfl, HR.out.1.1.trans (up_drewN _ _)⟩
    · obtain rfl : k = N := by omega
      have HU : Hid (Up w wr) := HR.out.1.1
      have hfin : q = true := by
        rw [← HQ.out]
        have h := HR.out.2
        rw [List.take_of_length_le (by rw [HN.out.1]; exact Nat.le_refl _), List.take_of_length_le (by rw [HN.out.2]; exact Nat.le_refl _)] at h
        exact decide_eq_true h
      subst hfin
      clear HR HX HB0
      go_wp2
      go_ret
      exact ⟨rfl, HU.out⟩

set_option maxRecDepth 20000 in
set_option maxHeartbeats 1600000 in
theorem alike_early (la lb fa fb N M : Nat) (ao bo : Option Addr) (ac bc : Nat) (w : World) (h : la ≠ lb ∨ fa ≠ fb ∨ N ≠ M) :
    Calls Tryd.prog 17 #[.agg #[V la, V fa, .slice ao N ac], .agg #[V lb, V fb, .slice bo M bc]] w fun e w' => e = .returned (.bool false) ∧ Up w w' := by
  have b0 : Box ((w.alloc (.cells #[V la, V fa, .slice ao N ac] 29)).alloc (.cells #[V lb, V fb, .slice bo M bc] 29)) w.heap.size #[V la, V fa, .slice ao N ac] := (Box.new _ _ _).alloc _
  have b1 : Box ((w.alloc (.cells #[V la, V fa, .slice ao N ac] 29)).alloc (.cells #[V lb, V fb, .slice bo M bc] 29)) (w.heap.size + 1) #[V lb, V fb, .slice bo M bc] := Box.newAt (by simp)
  have u0 : Up w ((w.alloc (.cells #[V la, V fa, .slice ao N ac] 29)).alloc (.cells #[V lb, V fb, .slice bo M bc] 29)) := (Up.alloc _ _).trans (Up.alloc _ _)
  obtain ⟨q1, hq1⟩ : ∃ q, ((la : Int) != (lb : Int)) = q := ⟨_, rfl⟩
  obtain ⟨q2, hq2⟩ : ∃ q, ((fa : Int) != (fb : Int)) = q := ⟨_, rfl⟩
  obtain ⟨q3, hq3⟩ : ∃ q, ((N : Int) != (M : Int)) = q := ⟨_, rfl⟩
  have hor : q1 = true ∨ q2 = true ∨ q3 = true := by
    rw [← hq1, ← hq2, ← hq3]
    simp only [bne_iff_ne, ne_eq]
    omega
  clear h
  go_enter Tryd.func17, Tryd.ntmps17
  go_upto_region 1 with fail
  generalize (w.alloc (.cells #[V la, V fa, .slice ao N ac] 29)).alloc (.cells #[V lb, V fb, .slice bo M bc] 29) = w0 at *
  generalize w.heap.size = B at *
  obtain ⟨s0, s1, s2⟩ := b0.c3
  obtain ⟨t0, t1, t2⟩ := b1.c3
  cases q1 with
  | true =>
    clear hor hq2 hq3
    go_wp2
    go_ret
    exact ⟨rfl, u0⟩
  | false =>
    cases q2 with
    | true =>
      clear hor hq3
      go_wp2
      go_ret
      exact ⟨rfl, u0⟩
    | false =>
      obtain rfl : q3 = true := by simpa using hor
      clear hor
      go_wp2
      go_ret
      exact ⟨rfl, u0⟩
/-- The law's alike. -/
theorem alike_any (va vb : Value) (la lb fa fb : Nat) (xs ys : List Ent) (w : World) (ha : SlE w va xs) (hb : SlE w vb ys) (hl : xs.length ≤ 140737488355328) :
    Calls Tryd.prog 17 #[.agg #[V la, V fa, va], .agg #[V lb, V fb, vb]] w fun e w' => e = .returned (.bool (decide ((⟨la, fa, xs⟩ : StV) = ⟨lb, fb, ys⟩))) ∧ Up w w' := by
  by_cases h : la ≠ lb ∨ fa ≠ fb ∨ xs.length ≠ ys.length
  · obtain ⟨ao, ac, rfl, _⟩ := ha
    obtain ⟨bo, bc, rfl, _⟩ := hb
    rw [decide_eq_false (by rintro ⟨⟩; simp at h)]
    exact alike_early la lb fa fb _ _ ao bo ac bc w h
  · have h1 : la = lb := Classical.byContradiction fun c => h (.inl c)
    have h2 : fa = fb := Classical.byContradiction fun c => h (.inr (.inl c))
    have h3 : xs.length = ys.length := Classical.byContradiction fun c => h (.inr (.inr c))
    subst h1 h2
    exact alike_rows va vb la fa xs ys w ha hb hl h3.symm _ (by simp)
theorem alike_self (va vb : Value) (l f : Nat) (xs : List Ent) (w : World) (ha : SlE w va xs) (hb : SlE w vb xs) (hl : xs.length ≤ 140737488355328) :
    Calls Tryd.prog 17 #[.agg #[V l, V f, va], .agg #[V l, V f, vb]] w fun e w' => e = .returned (.bool true) ∧ Up w w' := by
  have := alike_any va vb l l f f xs xs w ha hb hl
  rwa [decide_eq_true rfl] at this
theorem empty_zero (w : World) : Calls Tryd.prog 18 #[S0] w fun e w' => e = .returned (.bool true) ∧ Up w w' := by
  have b0 : Box (w.alloc (.cells #[V 0, V 0, .slice none 0 0] 29)) w.heap.size #[V 0, V 0, .slice none 0 0] := Box.new _ _ _
  have u0 : Up w (w.alloc (.cells #[V 0, V 0, .slice none 0 0] 29)) := Up.alloc _ _
  go_enter Tryd.func18, Tryd.ntmps18
  go_upto_region 1 with fail
  generalize w.alloc (.cells #[V 0, V 0, .slice none 0 0] 29) = w0 at *
  obtain ⟨s0, s1, s2⟩ := b0.c3
  go_wp2_with fail
  refine (alike_self (.slice none 0 0) (.slice none 0 0) 0 0 [] _ (SlE.nil _) (SlE.nil _) (by simp)).mono ?_
  rintro e w1 ⟨rfl, u1⟩
  go_wp2
  go_ret
  exact ⟨rfl, u0.trans u1⟩
end Go.Proofs.YtooclofdljampaaDoor

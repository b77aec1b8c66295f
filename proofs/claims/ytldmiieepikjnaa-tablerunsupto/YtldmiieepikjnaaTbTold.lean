/- table: the law's same and told; awake; a change of both tables. Own work. -/
import Derived.Test.YtldmiieepikjnaaTbYieldT
import Derived.Test.YtldmiieepikjnaaTbYieldF
set_option linter.unusedVariables false
set_option linter.unusedSimpArgs false
namespace Go.Proofs.Ytldmiieepikjnaa
open Go Go.RowKit

theorem cut_zero {α : Type} (zs : List α) : cut 0 zs = [] := by simp [cut]
theorem cut_len {α : Type} (most : Int) (zs : List α) (h0 : 0 ≤ most) (h : most < (zs.length : Int)) : (cut most zs).length = most.toNat := by
  unfold cut; rw [if_pos h0, List.length_take]; omega
theorem cut_all {α : Type} (most : Int) (zs : List α) (h : ¬ (0 ≤ most ∧ most < (zs.length : Int))) : cut most zs = zs := by
  unfold cut
  split
  · exact List.take_of_length_le (by omega)
  · rfl

set_option maxHeartbeats 1000000 in
theorem yields0_any (tp : Option Addr) (whole : Bool) (key : ByteArray) (w : World) :
    Calls Try.prog 42 #[.pointer tp, .bool whole, .string key, .int .i64 0] w fun e w' => ∃ v, e = .returned (.tuple #[v, .bool true]) ∧ SlIt w' v [] ∧ (∀ k ∈ ob v, w.heap.size ≤ k) ∧ Up w w' := by
  have q1 := FromI_any tp key
  have q2 := AllI_any tp
  have hnf := nf1
  have b7 : ∀ (o1 o2 o3 o4 o5 : Obj), ((((((w.alloc (.cells #[.int .i64 0] 3)).alloc o1).alloc o2).alloc o3).alloc o4).alloc o5).cell? ⟨w.heap.size, 0, none⟩ = some (.int .i64 0) := fun o1 o2 o3 o4 o5 =>
    (((((Boxed.new w 3 (.int .i64 0)).alloc _).alloc _).alloc _).alloc _).alloc _ |>.cell
  have b7' : ∀ (o1 o2 o3 : Obj), ((((w.alloc (.cells #[.int .i64 0] 3)).alloc o1).alloc o2).alloc o3).cell? ⟨w.heap.size, 0, none⟩ = some (.int .i64 0) := fun o1 o2 o3 =>
    (((Boxed.new w 3 (.int .i64 0)).alloc _).alloc _).alloc _ |>.cell
  have b10 : ∀ (o2 o3 o4 o5 : Obj), ((((((w.alloc (.cells #[.int .i64 0] 3)).alloc (.cells #[.slice none 0 0] 39)).alloc o2).alloc o3).alloc o4).alloc o5).cell? ⟨w.heap.size + 1, 0, none⟩ = some (.slice none 0 0) := fun o2 o3 o4 o5 => by
    have s1 := Boxed.new (w.alloc (.cells #[.int .i64 0] 3)) 39 (.slice none 0 0)
    rw [World.size_alloc] at s1
    exact ((((s1.alloc _).alloc _).alloc _).alloc _).cell
  have b10' : ∀ (o2 o3 : Obj), ((((w.alloc (.cells #[.int .i64 0] 3)).alloc (.cells #[.slice none 0 0] 39)).alloc o2).alloc o3).cell? ⟨w.heap.size + 1, 0, none⟩ = some (.slice none 0 0) := fun o2 o3 => by
    have s1 := Boxed.new (w.alloc (.cells #[.int .i64 0] 3)) 39 (.slice none 0 0)
    rw [World.size_alloc] at s1
    exact ((s1.alloc _).alloc _).cell
  cases whole
  · go_enter Try.func42, Try.ntmps42
    go_wp2_with (first
      | (go_at_call 23; refine (q1 _).mono ?_; clear q1; rintro e w1 ⟨rfl, rfl⟩))
    go_ret2
    refine ⟨_, rfl, ⟨none, 0, rfl, Nat.le_refl _, fun h => absurd rfl h⟩, fun k hk => by simp [ob, Value.ownBlock] at hk, ?_⟩
    repeat' (first | exact Up.refl _ | refine Up.trans ?_ (Up.alloc _ _))
  · go_enter Try.func42, Try.ntmps42
    go_wp2_with (first
      | (go_at_call 23; refine (q1 _).mono ?_; clear q1; rintro e w1 ⟨rfl, rfl⟩)
      | (go_at_call 62; refine (q2 _).mono ?_; clear q2; rintro e w1 ⟨rfl, rfl⟩))
    go_ret2
    refine ⟨_, rfl, ⟨none, 0, rfl, Nat.le_refl _, fun h => absurd rfl h⟩, fun k hk => by simp [ob, Value.ownBlock] at hk, ?_⟩
    repeat' (first | exact Up.refl _ | refine Up.trans ?_ (Up.alloc _ _))
/-- yields, whole or from a key on. -/
theorem yields_any (tp : Option Addr) (whole : Bool) (key : ByteArray) (most : Int) (xs : List (KV Int)) (w : World) (h : TabP w tp xs) (hn : xs.length ≤ 4000000000000) :
    Calls Try.prog 42 #[.pointer tp, .bool whole, .string key, .int .i64 most] w fun e w' => ∃ v, e = .returned (.tuple #[v, .bool true]) ∧ SlIt w' v (cut most (if whole then xs else fromL key xs)) ∧ (∀ k ∈ ob v, w.heap.size ≤ k) ∧ Up w w' := by
  by_cases hm : most = 0
  · subst hm
    rw [cut_zero]
    exact yields0_any tp whole key w
  · cases whole
    · exact callsIn_wide.1 (yieldsF_in tp key most xs w h hn hm)
    · exact callsIn_wide.1 (yieldsT_in tp key most xs w h hn hm)

theorem sl_take {w : World} {ao : Option Addr} {cap : Nat} {ys : List (KV Int)} (m : Nat) (hm : m ≤ ys.length) (h : SlIt w (.slice ao ys.length cap) ys) :
    ∃ v', (∀ u, (Instr.slice 39 (.slice ao ys.length cap) none (some (.int .i64 (m : Int))) none).run Try.prog u = .ok v' u) ∧ SlIt w v' (ys.take m) := by
  obtain ⟨i0, hi, hz0, hz1, hz2⟩ := info_parts Try.infoItem
  have hsz : ∀ uu, (sizeOf 51).run Try.prog uu = .ok 2 uu := fun uu => by simp [sizeOf, typeInfo, hi, hz1]
  have hel : Try.prog.elem 39 = 51 := by kernel_rfl
  have hu : Try.prog.underlying 39 = some (.slice (Try.prog.elem 39)) := by rw [hel]; exact Try.underlying39
  obtain ⟨ao', cap', he, hc, hx⟩ := h
  simp only [Value.slice.injEq] at he
  obtain ⟨rfl, _, rfl⟩ := he
  refine ⟨sliced ao 0 m cap 2, fun u => ?_, ?_⟩
  · rw [run_slice_h u 39 ao _ cap hu .i64 _ (by omega) (by omega), hel, hsz]
    simp [Result.andThen]
  · refine ⟨if cap = 0 then ao else ao.map (·.add (0 * 2)), cap, ?_, ?_, fun hne => ?_⟩
    · simp [sliced, List.length_take, Nat.min_eq_left hm]
    · rw [List.length_take]; omega
    · have hy : ys ≠ [] := by rintro rfl; simp at hne
      obtain ⟨g, o, rfl, hcell⟩ := hx hy
      have hl : 0 < ys.length := List.length_pos_iff.2 hy
      rw [if_neg (by omega)]
      refine ⟨g, o, by simp [Addr.add_lit], fun i hi => ?_⟩
      rw [List.length_take] at hi
      have := hcell i (by omega)
      rw [List.getElem_take]
      exact this

set_option maxRecDepth 20000 in
set_option maxHeartbeats 2000000 in
/-- The comparison's loop: the same items. -/
theorem same_loop (va vb : Value) (xs : List (KV Int)) (most : Int) (w : World) (ha : SlIt w va xs) (hb : SlIt w vb xs) (hn : xs.length ≤ 4000000000000) (hm : ¬ (0 ≤ most ∧ most < (xs.length : Int))) :
    Calls Try.prog 50 #[va, vb, .int .i64 most] w fun e w' => e = .returned (.bool true) ∧ Up w w' := by
  obtain ⟨ao, ca, rfl, hca, hax⟩ := ha
  obtain ⟨bo, cb, rfl, hcb, hbx⟩ := hb
  have HC : Hid (∀ i (h : i < xs.length) {w' : World}, Up w w' → ∃ g o g2 o2, ao = some ⟨g, o, none⟩ ∧ bo = some ⟨g2, o2, none⟩ ∧ w'.cell? ⟨g, o + i * 2, none⟩ = some (.string xs[i].1) ∧ w'.cell? ⟨g, o + i * 2 + 1, none⟩ = some (.int .i64 xs[i].2) ∧ w'.cell? ⟨g2, o2 + i * 2, none⟩ = some (.string xs[i].1) ∧ w'.cell? ⟨g2, o2 + i * 2 + 1, none⟩ = some (.int .i64 xs[i].2)) := fun i h {w'} u => by
    have hne : xs ≠ [] := by rintro rfl; simp at h
    obtain ⟨g, o, rfl, h1⟩ := hax hne
    obtain ⟨g2, o2, rfl, h2⟩ := hbx hne
    exact ⟨g, o, g2, o2, rfl, rfl, (u.cell (World.block_lt_of_cell? w _ (h1 i h).1)).trans (h1 i h).1, (u.cell (World.block_lt_of_cell? w _ (h1 i h).2)).trans (h1 i h).2, (u.cell (World.block_lt_of_cell? w _ (h2 i h).1)).trans (h2 i h).1, (u.cell (World.block_lt_of_cell? w _ (h2 i h).2)).trans (h2 i h).2⟩
  obtain ⟨N, hN⟩ : ∃ N, xs.length = N := ⟨_, rfl⟩
  have HN : Hid (xs.length = N) := hN
  rw [hN] at hn hm hca hcb ⊢
  clear hax hbx hN
  have hNb : (N : Int) ≤ 4000000000000 := by omega
  go_enter Try.func50, Try.ntmps50
  have key : (0 ≤ most ∧ (N : Int) ≤ most) ∨ ¬ (0 ≤ most) := by omega
  clear hm
  rcases key with ⟨h0, h1⟩ | h0
  all_goals
    go_wp2
    go_loopg [7] N (fun g s wr => Up w wr ∧ ∃ i : Nat, s = .int .i64 (i : Int) ∧ Hid (g + i = N))
    case atStart => exact ⟨Up.refl _, 0, rfl, rfl⟩
    case round =>
      obtain ⟨hu, i, rfl, hH⟩ := hrel
      by_cases hlt : i < N
      · obtain ⟨g, o, g2, o2, rfl, rfl, c1, c2, c3, c4⟩ := HC.out i (by rw [HN.out]; exact hlt) hu
        obtain ⟨kk, hkk⟩ : ∃ kk, (xs[i]'(by rw [HN.out]; exact hlt)).1 = kk := ⟨_, rfl⟩
        obtain ⟨zz, hzz⟩ : ∃ zz, (xs[i]'(by rw [HN.out]; exact hlt)).2 = zz := ⟨_, rfl⟩
        rw [hkk] at c1 c3
        rw [hzz] at c2 c4
        have hiN : (i : Int) < (N : Int) := by omega
        have hw : IntKind.i64.wrap ((i : Int) + 1) = ((i + 1 : Nat) : Int) := by rw [IntKind.wrap_i64]; omega
        have HB : Hid (gk + i = N ∧ i < N) := ⟨hH.out, hlt⟩
        clear hkk hzz hlt hH
        go_wp2
        go_quiet (fail)
        clear c1 c2 c3 c4
        have u2 := hu.trans (up_drewN wr nq)
        generalize wr.drewN nq = w0 at u2 ⊢
        go_wp2
        go_roundg (gk - 1)
        case measure => have := HB.out; omega
        case rel => exact ⟨u2, i + 1, by simp, by have := HB.out; show _ = _; omega⟩
      · have hiN : ¬ ((i : Int) < (N : Int)) := by omega
        clear hlt hH HC
        go_wp2
        go_ret
        exact ⟨rfl, hu⟩
set_option maxRecDepth 20000 in
set_option maxHeartbeats 2000000 in
/-- The same, the second row being longer. -/
theorem same_cut (va vb : Value) (ys : List (KV Int)) (m : Nat) (w : World) (ha : SlIt w va (ys.take m)) (hb : SlIt w vb ys) (hn : ys.length ≤ 4000000000000) (hm : m < ys.length) :
    Calls Try.prog 50 #[va, vb, .int .i64 (m : Int)] w fun e w' => e = .returned (.bool true) ∧ Up w w' := by
  obtain ⟨bo0, cb0, rfl⟩ := hb.slice
  obtain ⟨v', hsl, hv'⟩ := sl_take m (by omega) hb
  have hL : (m : Int) < (ys.length : Int) := by omega
  have hLb : (ys.length : Int) ≤ 4000000000000 := by omega
  obtain ⟨xs, hxs⟩ : ∃ xs, ys.take m = xs := ⟨_, rfl⟩
  have hlen : xs.length = m := by rw [← hxs, List.length_take]; omega
  rw [hxs] at ha hv'
  obtain ⟨L, hLL⟩ : ∃ L, ys.length = L := ⟨_, rfl⟩
  rw [hLL] at hL hLb hsl ⊢
  have hmn : m ≤ 4000000000000 := by omega
  clear hb hn hm hxs hLL
  obtain ⟨ao, ca, rfl, hca, hax⟩ := ha
  obtain ⟨bo, cb, rfl, hcb, hbx⟩ := hv'
  have HC : Hid (∀ i (h : i < xs.length) {w' : World}, Up w w' → ∃ g o g2 o2, ao = some ⟨g, o, none⟩ ∧ bo = some ⟨g2, o2, none⟩ ∧ w'.cell? ⟨g, o + i * 2, none⟩ = some (.string xs[i].1) ∧ w'.cell? ⟨g, o + i * 2 + 1, none⟩ = some (.int .i64 xs[i].2) ∧ w'.cell? ⟨g2, o2 + i * 2, none⟩ = some (.string xs[i].1) ∧ w'.cell? ⟨g2, o2 + i * 2 + 1, none⟩ = some (.int .i64 xs[i].2)) := fun i h {w'} u => by
    have hne : xs ≠ [] := by rintro rfl; simp at h
    obtain ⟨g, o, rfl, h1⟩ := hax hne
    obtain ⟨g2, o2, rfl, h2⟩ := hbx hne
    exact ⟨g, o, g2, o2, rfl, rfl, (u.cell (World.block_lt_of_cell? w _ (h1 i h).1)).trans (h1 i h).1, (u.cell (World.block_lt_of_cell? w _ (h1 i h).2)).trans (h1 i h).2, (u.cell (World.block_lt_of_cell? w _ (h2 i h).1)).trans (h2 i h).1, (u.cell (World.block_lt_of_cell? w _ (h2 i h).2)).trans (h2 i h).2⟩
  obtain ⟨N, hN⟩ : ∃ N, xs.length = N := ⟨_, rfl⟩
  have HN : Hid (xs.length = N) := hN
  have hmN : m = N := by omega
  subst hmN
  rw [hN] at hca hcb hsl ⊢
  clear hax hbx hN hlen
  have hNb : (m : Int) ≤ 4000000000000 := by omega
  go_enter Try.func50, Try.ntmps50
  go_wp2
  go_loopg [7] m (fun g s wr => Up w wr ∧ ∃ i : Nat, s = .int .i64 (i : Int) ∧ Hid (g + i = m))
  case atStart => exact ⟨Up.refl _, 0, rfl, rfl⟩
  case round =>
    obtain ⟨hu, i, rfl, hH⟩ := hrel
    by_cases hlt : i < m
    · obtain ⟨g, o, g2, o2, rfl, rfl, c1, c2, c3, c4⟩ := HC.out i (by rw [HN.out]; exact hlt) hu
      obtain ⟨kk, hkk⟩ : ∃ kk, (xs[i]'(by rw [HN.out]; exact hlt)).1 = kk := ⟨_, rfl⟩
      obtain ⟨zz, hzz⟩ : ∃ zz, (xs[i]'(by rw [HN.out]; exact hlt)).2 = zz := ⟨_, rfl⟩
      rw [hkk] at c1 c3
      rw [hzz] at c2 c4
      have hiN : (i : Int) < (m : Int) := by omega
      have hw : IntKind.i64.wrap ((i : Int) + 1) = ((i + 1 : Nat) : Int) := by rw [IntKind.wrap_i64]; omega
      have HB : Hid (gk + i = m ∧ i < m) := ⟨hH.out, hlt⟩
      clear hkk hzz hlt hH
      go_wp2
      go_quiet (fail)
      clear c1 c2 c3 c4
      have u2 := hu.trans (up_drewN wr nq)
      generalize wr.drewN nq = w0 at u2 ⊢
      go_wp2
      go_roundg (gk - 1)
      case measure => have := HB.out; omega
      case rel => exact ⟨u2, i + 1, by simp, by have := HB.out; show _ = _; omega⟩
    · have hiN : ¬ ((i : Int) < (m : Int)) := by omega
      clear hlt hH HC
      go_wp2
      go_ret
      exact ⟨rfl, hu⟩

/-- same: a row against a longer one. -/
theorem same_any (va vb : Value) (ys : List (KV Int)) (most : Int) (w : World) (ha : SlIt w va (cut most ys)) (hb : SlIt w vb ys) (hn : ys.length ≤ 4000000000000) :
    Calls Try.prog 50 #[va, vb, .int .i64 most] w fun e w' => e = .returned (.bool true) ∧ Up w w' := by
  by_cases h : 0 ≤ most ∧ most < (ys.length : Int)
  · obtain ⟨m, rfl⟩ := Int.eq_ofNat_of_zero_le h.1
    have e : cut (m : Int) ys = ys.take m := by unfold cut; rw [if_pos h.1]; rfl
    rw [e] at ha
    exact same_cut va vb ys m w ha hb hn (by omega)
  · rw [cut_all most ys h] at ha
    exact same_loop va vb ys most w ha hb hn h
set_option maxHeartbeats 1000000 in
/-- told: what going through yields is what is wanted. -/
theorem told_any (tp : Option Addr) (whole : Bool) (key : ByteArray) (most : Int) (xs : List (KV Int)) (vw : Value) (w : World) (h : TabP w tp xs) (hn : xs.length ≤ 4000000000000) (hw : SlIt w vw (if whole then xs else fromL key xs)) :
    Calls Try.prog 20 #[.pointer tp, .bool whole, .string key, .int .i64 most, vw] w fun e w' => e = .returned (.bool true) ∧ Up w w' := by
  have q := yields_any tp whole key most xs w h hn
  have hl : (if whole then xs else fromL key xs).length ≤ 4000000000000 := by
    split
    · exact hn
    · exact Nat.le_trans (List.length_filter_le ..) hn
  have q2 : ∀ {w' : World} {v : Value}, Up w w' → SlIt w' v (cut most (if whole then xs else fromL key xs)) → Calls Try.prog 50 #[v, vw, .int .i64 most] w' fun e w'' => e = .returned (.bool true) ∧ Up w w'' := fun {w' v} u hv =>
    (same_any v vw _ most w' hv (hw.up u) hl).mono fun e w'' ⟨he, hu⟩ => ⟨he, u.trans hu⟩
  clear h hn hw hl
  go_enter Try.func20, Try.ntmps20
  go_wp2_with (first
    | (go_at_call 42; refine q.mono ?_; clear q; rintro e w1 ⟨v1, rfl, h1, h2, u1⟩; have q3 := q2 u1 h1; clear q2 h1 h2; obtain ⟨v2, rfl⟩ : ∃ v2, v2 = v1 := ⟨_, rfl⟩)
    | (go_at_call 50; refine q3.mono ?_; clear q3; rintro e w2 ⟨rfl, u2⟩))
  go_ret
  exact ⟨rfl, u2⟩
theorem placed (i : Int) : ∃ p : Nat, p < 3 ∧ wrap64 ((IntKind.u64.wrap i).tmod 3) = (p : Int) := by
  have h0 : 0 ≤ IntKind.u64.wrap i := by rw [IntKind.wrap_u64]; omega
  rw [Int.tmod_eq_emod_of_nonneg h0]
  generalize IntKind.u64.wrap i = z at h0
  have h1 : 0 ≤ z % 3 ∧ z % 3 < 3 := by omega
  obtain ⟨p, hp⟩ := Int.eq_ofNat_of_zero_le h1.1
  refine ⟨p, by omega, ?_⟩
  rw [hp]
  have : p = 0 ∨ p = 1 ∨ p = 2 := by omega
  rcases this with rfl | rfl | rfl <;> simp [wrap64]
theorem place_run (i : Int) : ∃ p : Nat, p < 3 ∧ ∀ w : World, Calls Try.prog 11 #[.int .i64 i] w fun e w' => e = .returned (.int .i64 (p : Int)) ∧ w' = w := by
  obtain ⟨p, h1, h2⟩ := placed i
  refine ⟨p, h1, fun w => ?_⟩
  go_enter Try.func11, Try.ntmps11
  go_wp2
  go_ret
  exact ⟨by simp [h2], rfl⟩

abbrev kA : ByteArray := ⟨#[97]⟩
abbrev kB : ByteArray := ⟨#[98]⟩
abbrev kC : ByteArray := ⟨#[99]⟩
theorem lit_put1 : took 2 kB ([] : List (KV Int)) = true ∧ putT 2 kB (1 : Int) [] = [(kB, 1)] := by
  constructor <;> simp [took, putT, getL, putL, lo, hi]
theorem lit_put2 : took 2 kA [(kB, (1 : Int))] = true ∧ putT 2 kA (2 : Int) [(kB, 1)] = [(kA, 2), (kB, 1)] := by
  constructor <;> simp [took, putT, getL, putL, lo, hi, kl, Lib.toList_data, Op.bytesLess]
theorem lit_put3 : took 2 kC [(kA, (2 : Int)), (kB, 1)] = false ∧ putT 2 kC (3 : Int) [(kA, 2), (kB, 1)] = [(kA, 2), (kB, 1)] := by
  constructor <;> simp [took, putT, getL, putL, lo, hi, kl, Lib.toList_data, Op.bytesLess]
theorem lit_get : getL kB [(kA, (2 : Int)), (kB, 1)] = some 1 := by
  simp [getL, kl, Lib.toList_data, Op.bytesLess]

set_option maxHeartbeats 2000000 in
set_option maxRecDepth 20000 in
theorem awake_any (w : World) : Calls Try.prog 8 #[] w fun e w' => e = .returned (.bool true) ∧ Up w w' := by
  have p1 : ∀ {w1 : World}, TabI w1 w.heap.size 2 [] → Calls Try.prog 12 #[.pointer (some ⟨w.heap.size, 0, none⟩), .string kB, .int .i64 1] w1 fun e w' => e = .returned (.bool true) ∧ TabI w' w.heap.size 2 [(kB, 1)] ∧ Touch w1 w' [w.heap.size] := fun {w1} h => by
    have := PutI_any kB 1 w.heap.size 2 [] w1 h (by decide) (by simp)
    rwa [lit_put1.1, lit_put1.2] at this
  have p2 : ∀ {w1 : World}, TabI w1 w.heap.size 2 [(kB, 1)] → Calls Try.prog 12 #[.pointer (some ⟨w.heap.size, 0, none⟩), .string kA, .int .i64 2] w1 fun e w' => e = .returned (.bool true) ∧ TabI w' w.heap.size 2 [(kA, 2), (kB, 1)] ∧ Touch w1 w' [w.heap.size] := fun {w1} h => by
    have := PutI_any kA 2 w.heap.size 2 [(kB, 1)] w1 h (by decide) (by simp)
    rwa [lit_put2.1, lit_put2.2] at this
  have p3 : ∀ {w1 : World}, TabI w1 w.heap.size 2 [(kA, 2), (kB, 1)] → Calls Try.prog 12 #[.pointer (some ⟨w.heap.size, 0, none⟩), .string kC, .int .i64 3] w1 fun e w' => e = .returned (.bool false) ∧ TabI w' w.heap.size 2 [(kA, 2), (kB, 1)] ∧ Touch w1 w' [w.heap.size] := fun {w1} h => by
    have := PutI_any kC 3 w.heap.size 2 [(kA, 2), (kB, 1)] w1 h (by decide) (by simp)
    rwa [lit_put3.1, lit_put3.2] at this
  have p4 : ∀ {w1 : World}, TabI w1 w.heap.size 2 [(kA, 2), (kB, 1)] → Calls Try.prog 14 #[.pointer (some ⟨w.heap.size, 0, none⟩), .string kB] w1 fun e w' => e = .returned (.tuple #[.int .i64 1, .bool true]) ∧ w' = w1 := fun {w1} h => by
    have := GetI_any kB w.heap.size 2 [(kA, 2), (kB, 1)] w1 h
    rwa [lit_get] at this
  have p5 : ∀ {w1 : World}, TabI w1 w.heap.size 2 [(kA, 2), (kB, 1)] → Calls Try.prog 18 #[.pointer (some ⟨w.heap.size, 0, none⟩)] w1 fun e w' => e = .returned (.int .i64 2) ∧ w' = w1 := fun {w1} h => LenI_any w.heap.size 2 [(kA, 2), (kB, 1)] w1 h
  have p0 := NewI_any 2 w
  go_enter Try.func8, Try.ntmps8
  go_wp2_with fail
  refine p0.mono ?_
  rintro e w1 ⟨rfl, h1, u1⟩
  go_wp2_with fail
  refine (p1 h1).mono ?_
  rintro e w2 ⟨rfl, h2, t2⟩
  go_wp2_with fail
  refine (p2 h2).mono ?_
  rintro e w3 ⟨rfl, h3, t3⟩
  go_wp2_with fail
  refine (p3 h3).mono ?_
  rintro e w4 ⟨rfl, h4, t4⟩
  go_wp2_with fail
  refine (p4 h4).mono ?_
  rintro e w5 ⟨rfl, hw⟩
  obtain rfl : w4 = w5 := hw.symm
  go_wp2_with fail
  refine (p5 h4).mono ?_
  rintro e w5 ⟨rfl, hw⟩
  obtain rfl : w4 = w5 := hw.symm
  go_wp2
  go_ret
  have t := (((Touch.of_up u1 [w.heap.size]).trans t2 (fun k hk => .inl hk)).trans t3 (fun k hk => .inl hk)).trans t4 (fun k hk => .inl hk)
  exact ⟨rfl, t.up (fun k hk => by simp at hk; omega)⟩
end Go.Proofs.Ytldmiieepikjnaa

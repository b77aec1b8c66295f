/- Merged: StPcs0, StRis0, StRisE. -/
import Derived.Test.YtffldmeocmemeaaDoorMsD
import Derived.Test.YtffldmeocmemeaaDoorHeldTo
import Derived.Deep.DeepCutAuto
set_option linter.unusedVariables false
set_option linter.unusedSimpArgs false
namespace Go.Proofs.YtffldmeocmemeaaDoor
open Go Go.RowKit

def fst64 (l : Nat) : Nat := (l + 1) % 18446744073709551616
theorem fst64_ok {s : StV} (hs : OkS s) : fst64 s.lsn = s.lsn + 1 := by
  have h := hs.lsn
  unfold fst64
  omega
theorem rep_plain {s : StV} (hs : OkS s) (rs : List RecV) : replayS s (s.lsn + 1) rs = runS s (s.lsn + 1) rs := by
  unfold replayS
  rw [(okS_iff s).2 hs]
  simp
  intro h
  omega
theorem rep_held {s : StV} (hs : OkS s) {n k : Nat} (rs : List RecV) (hn : n + k = s.lsn + 1) (h0 : n ≠ 0) (hk : k ≤ rs.length) : replayS s n rs = runS s (s.lsn + 1) (rs.drop k) := by
  by_cases hz : k = 0
  · subst hz
    rw [Nat.add_zero] at hn
    subst hn
    rw [rep_plain hs, List.drop_zero]
  · unfold replayS
    rw [(okS_iff s).2 hs]
    rw [if_pos (by simp [h0]), if_pos (by omega), show s.lsn - n + 1 = k by omega, Nat.min_eq_left hk, hn]
theorem rep_bad {s : StV} (h : okS s = false) (n : Nat) (rs : List RecV) : replayS s n rs = .error .arg := by
  unfold replayS
  rw [h]
  simp
theorem rep_err {s : StV} {one : List RecV} {x : Flw} (h : replayS s (fst64 s.lsn) one = .error x) (two : List RecV) : replayS s (fst64 s.lsn) (one ++ two) = .error x := by
  cases ho : okS s with
  | false => rw [rep_bad ho] at h ⊢; exact h
  | true =>
    have hs := (okS_iff s).1 ho
    rw [fst64_ok hs, rep_plain hs] at h ⊢
    rw [run_app, h]
theorem rep_ok {s m : StV} {one : List RecV} (h : replayS s (fst64 s.lsn) one = .ok m) (two : List RecV) :
    OkS s ∧ OkS m ∧ fst64 s.lsn = s.lsn + 1 ∧ m.lsn = s.lsn + one.length ∧ replayS s (fst64 s.lsn) (one ++ two) = replayS m (s.lsn + 1 + one.length) two := by
  cases ho : okS s with
  | false => rw [rep_bad ho] at h; cases h
  | true =>
    have hs := (okS_iff s).1 ho
    rw [fst64_ok hs] at h ⊢
    rw [rep_plain hs] at h ⊢
    have hm := run_ok one hs h
    have hl : m.lsn = s.lsn + one.length := by
      by_cases e : one = []
      · subst e
        unfold runS at h
        obtain rfl := Except.ok.inj h
        simp
      · have := run_lsn one h e
        omega
    refine ⟨hs, hm, rfl, hl, ?_⟩
    rw [run_app, h, show s.lsn + 1 + one.length = m.lsn + 1 by omega, rep_plain hm]
theorem rep_end {s m t : StV} {one two : List RecV} (h : replayS s (fst64 s.lsn) one = .ok m) (h2 : replayS m (s.lsn + 1 + one.length) two = .ok t) (odd : List RecV) (ho : odd.length = one.length) :
    OkS t ∧ replayS m (fst64 s.lsn) (odd ++ two) = .ok t ∧ replayS t (fst64 s.lsn) (one ++ two) = .ok t := by
  obtain ⟨hs, hm, hf, hl, _⟩ := rep_ok h two
  rw [show s.lsn + 1 + one.length = m.lsn + 1 by omega, rep_plain hm] at h2
  have ht := run_ok two hm h2
  have hl2 : t.lsn = m.lsn + two.length := by
    by_cases e : two = []
    · subst e
      unfold runS at h2
      obtain rfl := Except.ok.inj h2
      simp
    · have := run_lsn two h2 e
      omega
  rw [hf]
  refine ⟨ht, ?_, ?_⟩
  · rw [rep_held hm (k := one.length) _ (by omega) (by omega) (by simp; omega), List.drop_append_of_le_length (by omega), List.drop_of_length_le (by omega), List.nil_append]
    exact h2
  · rw [rep_held ht (k := one.length + two.length) _ (by omega) (by omega) (by simp), List.drop_of_length_le (by simp)]
    unfold runS
    rfl

/-- Records one behind the other. -/
abbrev RC (r : RecV) : List Value := [.int .i64 r.kind, V r.floor, .string ⟨r.key.toArray⟩, .int .i64 r.pk, V r.gap, V r.slack, V r.limit, V r.span, V r.tat, V r.idx, V r.cnt]
def Rcs (rs : List RecV) : List Value := rs.flatMap RC
theorem Rcs_cons (x : RecV) (xs : List RecV) : Rcs (x :: xs) = RC x ++ Rcs xs := rfl
theorem Rcs_app (xs ys : List RecV) : Rcs (xs ++ ys) = Rcs xs ++ Rcs ys := List.flatMap_append
theorem Rcs_length : ∀ xs : List RecV, (Rcs xs).length = xs.length * 11
  | [] => rfl
  | x :: xs => by rw [Rcs_cons, List.length_append, Rcs_length xs, List.length_cons]; simp; omega
theorem Rcs_one : ∀ (xs : List RecV), ∀ u ∈ Rcs xs, u.oneCell' = true := fun xs u hu => by
  obtain ⟨x, _, hx⟩ := List.mem_flatMap.1 hu
  simp only [RC, List.mem_cons, List.not_mem_nil, or_false] at hx
  rcases hx with rfl | rfl | rfl | rfl | rfl | rfl | rfl | rfl | rfl | rfl | rfl <;> rfl
theorem Rcs_at : ∀ (xs : List RecV) (i : Nat) (h : i < xs.length) (j : Nat), j < 11 → (Rcs xs)[i * 11 + j]? = (RC xs[i])[j]?
  | x :: xs, 0, _, j, hj => by rw [Rcs_cons, List.getElem?_append_left (by simp; omega)]; simp
  | x :: xs, i + 1, h, j, hj => by
    rw [Rcs_cons, List.getElem?_append_right (by simp; omega)]
    have := Rcs_at xs i (by simpa using h) j hj
    rw [show (i + 1) * 11 + j - (RC x).length = i * 11 + j by simp; omega, this]
    rfl
theorem rcs_of {w : World} {b o : Nat} {xs : List RecV} (h : ∀ j u, (Rcs xs)[j]? = some u → w.cell? ⟨b, o + j, none⟩ = some u) (i : Nat) (hi : i < xs.length) : RecAt w b (o + i * 11) xs[i] := by
  have k := fun j hj u (hu : (RC xs[i])[j]? = some u) => h (i * 11 + j) u ((Rcs_at xs i hi j hj).trans hu)
  simp only [← Nat.add_assoc] at k
  exact ⟨k 0 (by decide) _ rfl, k 1 (by decide) _ rfl, k 2 (by decide) _ rfl, k 3 (by decide) _ rfl, k 4 (by decide) _ rfl, k 5 (by decide) _ rfl, k 6 (by decide) _ rfl, k 7 (by decide) _ rfl, k 8 (by decide) _ rfl, k 9 (by decide) _ rfl, k 10 (by decide) _ rfl⟩
theorem rcs_to {w : World} {b o : Nat} {xs : List RecV} (h : ∀ i (hi : i < xs.length), RecAt w b (o + i * 11) xs[i]) : ∀ j u, (Rcs xs)[j]? = some u → w.cell? ⟨b, o + j, none⟩ = some u := fun j u hu => by
  obtain ⟨hj, _⟩ := List.getElem?_eq_some_iff.1 hu
  rw [Rcs_length] at hj
  have hi : j / 11 < xs.length := by omega
  have hr : j % 11 < 11 := Nat.mod_lt _ (by decide)
  have e : j = j / 11 * 11 + j % 11 := by omega
  have c := h (j / 11) hi
  rw [e, Rcs_at xs (j / 11) hi (j % 11) hr] at hu
  obtain ⟨c0, c1, c2, c3, c4, c5, c6, c7, c8, c9, c10⟩ := c
  rw [e, ← Nat.add_assoc]
  generalize o + j / 11 * 11 = q at *
  generalize j % 11 = r at *
  match r, hr, hu with
  | 0, _, hu => simp at hu; rw [← hu]; exact c0
  | 1, _, hu => simp at hu; rw [← hu]; exact c1
  | 2, _, hu => simp at hu; rw [← hu]; exact c2
  | 3, _, hu => simp at hu; rw [← hu]; exact c3
  | 4, _, hu => simp at hu; rw [← hu]; exact c4
  | 5, _, hu => simp at hu; rw [← hu]; exact c5
  | 6, _, hu => simp at hu; rw [← hu]; exact c6
  | 7, _, hu => simp at hu; rw [← hu]; exact c7
  | 8, _, hu => simp at hu; rw [← hu]; exact c8
  | 9, _, hu => simp at hu; rw [← hu]; exact c9
  | 10, _, hu => simp at hu; rw [← hu]; exact c10
def OwnR (w : World) (base : Nat) (v : Value) (xs : List RecV) : Prop := w.ownsRow base 39 11 v xs.length (Rcs xs)
theorem OwnR.nil (w : World) (base : Nat) : OwnR w base (.slice none 0 0) [] := World.ownsRow_nil w base _ 11
theorem OwnR.up {w w' : World} {base : Nat} {v : Value} {xs : List RecV} (h : OwnR w base v xs) (u : Up w w') : OwnR w' base v xs := Touch.row h (Touch.of_up u []) (fun _ _ => by simp)
theorem OwnR.sl {w : World} {base : Nat} {v : Value} {xs : List RecV} (h : OwnR w base v xs) : SlR w v xs ∧ ∀ a m c, v = .slice a m c → c ≤ maxLen := by
  obtain ⟨hl, ⟨rfl, hn⟩ | ⟨g, cap, cur, rfl, hb, hg, hnc, hcm, hcs, ht⟩⟩ := h
  · obtain rfl := List.eq_nil_of_length_eq_zero hn
    exact ⟨⟨none, 0, rfl, Nat.le_refl _, fun _ => rfl, fun h => absurd rfl h⟩, fun a m c e => by simp only [Value.slice.injEq] at e; unfold maxLen; omega⟩
  · refine ⟨⟨some ⟨g, 0, none⟩, cap, rfl, hnc, (by intro e; cases e), fun _ => ⟨g, 0, rfl, fun i hi => rcs_of (fun j u hu => ?_) i hi⟩⟩, fun a m c e => by simp only [Value.slice.injEq] at e; omega⟩
    rw [← ht, List.getElem?_take] at hu
    split at hu
    · rw [cell_of_row w g _ cur _ (0, 0) hg, Nat.zero_add]
      simpa using hu
    · cases hu
/-- What an own row does under append keeps all that lay ahead of its base. -/
theorem OwnR.grown {wb w w' : World} {v : Value} {xs : List RecV} (h : OwnR w wb.heap.size v xs) (hu : Up wb w) (hg : w.grownBy w' v.ownBlock) : Up wb w' := by
  refine Touch.up (S := ob v) ((Touch.of_up hu _).trans (Touch.of_grown (S := ob v) hg (fun k hk => mem_ob.2 hk)) (fun k hk => .inl hk)) (fun k hk => ?_)
  exact (World.ownsRow.lt h k (mem_ob.1 hk)).1
theorem Tryd.infoRecZ : (Tryd.prog.info? 39).map (fun i => (i.zero, i.size, i.bytes)) = some (some (.agg #[.int .i64 0, Z, .string ⟨#[]⟩, .int .i64 0, Z, Z, Z, Z, Z, Z, Z]), 11, 96) := by kernel_rfl
theorem wpList_appR {ops : Array Oper} {rest : List Oper} {o : Oper} {a : Act} {Q : Exit → Act → World → Prop} (w : World) (hgd : o.guard = none) (s x : Operand)
    (ho : o.op = .call { callee := .builtin .append, args := #[s, x], argTypes := #[51, 51] }) (base : Nat) (v vx : Value) (xs ys : List RecV) (hs : a.eval s = v)
    (hx : a.eval x = vx) (how : OwnR w base v xs) (hsx : SlR w vx ys) (hbase : base ≤ w.heap.size) (hl : xs.length + ys.length ≤ 1000000000000)
    (hK : ∀ v' w', OwnR w' base v' (xs ++ ys) → w.grownBy w' v.ownBlock → wpList Tryd.prog ops Q rest (a.put o.dst v') w') :
    wpList Tryd.prog ops Q (o :: rest) a w := by
  obtain ⟨i0, hi, hz0, hz1, hz2⟩ := info_parts Tryd.infoRecZ
  obtain ⟨ao, c, rfl, hc, hn, hxx⟩ := hsx
  cases ao with
  | none =>
    have h0 := hn rfl
    subst h0
    have h1 : ys = [] := List.eq_nil_of_length_eq_zero (by omega)
    subst h1
    refine wpList_append_own_none hgd s x 51 ho base 39 i0 11 Tryd.underlying51 hi v xs.length (Rcs xs) hs how hx (hK v w (by rw [List.append_nil]; exact how) (World.grownBy.refl w _))
  | some ad =>
    refine wpList_append_own_wide _ hgd s x 51 ho base 39 i0 _ 11 96 Tryd.underlying51 hi hz0 hz1 hz2 rfl (by decide) v xs.length (Rcs xs) hs how ad ys.length c (Rcs ys) hx (Rcs_length ys) ?_ (Rcs_one ys) ?_ ?_ hbase ?_
    · intro j u hj
      have hne : ys ≠ [] := by rintro rfl; simp [Rcs] at hj
      obtain ⟨b, o, e, ha⟩ := hxx hne
      obtain rfl := Option.some.inj e
      rw [Addr.add_lit]
      exact rcs_to ha j u hj
    · unfold maxLen; omega
    · omega
    · intro v' w' h1 h2 _
      exact hK v' w' (by unfold OwnR; rw [List.length_append, Rcs_app]; exact h1) h2

set_option maxRecDepth 20000 in
theorem small_any (l f : Nat) (a0 : Option Addr) (N c0 : Nat) (w : World) : Calls Tryd.prog 20 #[.agg #[V l, V f, .slice a0 N c0]] w fun e w' => e = .returned (.bool (decide (N ≤ 16384))) ∧ Up w w' := by
  have b0 : Box (w.alloc (.cells #[V l, V f, .slice a0 N c0] 27)) w.heap.size #[V l, V f, .slice a0 N c0] := Box.new _ _ _
  have u0 : Up w (w.alloc (.cells #[V l, V f, .slice a0 N c0] 27)) := Up.alloc _ _
  obtain ⟨q, hq⟩ : ∃ q, decide (N ≤ 16384) = q := ⟨_, rfl⟩
  rw [hq]
  cases q with
  | true =>
    have h1 : (N : Int) ≤ 16384 := by have := of_decide_eq_true hq; omega
    clear hq
    go_enter Tryd.func20, Tryd.ntmps20
    go_upto_region 1 with fail
    generalize w.alloc (.cells #[V l, V f, .slice a0 N c0] 27) = w0 at *
    obtain ⟨s0, s1, s2⟩ := b0.c3
    go_wp2
    go_ret
    exact ⟨rfl, u0⟩
  | false =>
    have h1 : ¬ (N : Int) ≤ 16384 := by have := of_decide_eq_false hq; omega
    clear hq
    go_enter Tryd.func20, Tryd.ntmps20
    go_upto_region 1 with fail
    generalize w.alloc (.cells #[V l, V f, .slice a0 N c0] 27) = w0 at *
    obtain ⟨s0, s1, s2⟩ := b0.c3
    go_wp2
    go_ret
    exact ⟨rfl, u0⟩
theorem agree_none (w : World) : Calls Tryd.prog 23 #[.nilIface, .nilIface] w fun e w' => e = .returned (.bool true) ∧ Up w w' := by
  go_enter Tryd.func23, Tryd.ntmps23
  go_wp2
  go_ret
  exact ⟨rfl, Up.refl _⟩
theorem agree_same (a : Addr) (w : World) : Calls Tryd.prog 23 #[E a, E a] w fun e w' => e = .returned (.bool true) ∧ Up w w' := by
  have hq := fun u => eq_same a u
  go_enter Tryd.func23, Tryd.ntmps23
  go_wp2
  go_ret
  exact ⟨rfl, Up.refl _⟩

set_option maxRecDepth 20000 in
set_option maxHeartbeats 1600000 in
/-- The law's equal, of two states that are the same. -/
theorem equal_same (va vb : Value) (l f : Nat) (xs : List Ent) (w : World) (ha : SlE w va xs) (hb : SlE w vb xs) (hl : xs.length ≤ 140737488355328) :
    Calls Tryd.prog 24 #[.agg #[V l, V f, va], .agg #[V l, V f, vb]] w fun e w' => e = .returned (.bool true) ∧ Up w w' := by
  obtain ⟨ao, ac, rfl, _, _, hx⟩ := ha
  obtain ⟨bo, bc, rfl, _, _, hy⟩ := hb
  obtain ⟨N, hN⟩ : ∃ N, xs.length = N := ⟨_, rfl⟩
  have HN : Hid (xs.length = N) := hN
  have HX : Hid ((xs ≠ [] → ∃ b o, ao = some ⟨b, o, none⟩ ∧ EntsAt w b o xs) ∧ (xs ≠ [] → ∃ b o, bo = some ⟨b, o, none⟩ ∧ EntsAt w b o xs)) := ⟨hx, hy⟩
  rw [hN] at hl ⊢
  clear hN hx hy
  have hl1 : (N : Int) ≤ 140737488355328 := by omega
  have b0 : Box ((w.alloc (.cells #[V l, V f, .slice ao N ac] 27)).alloc (.cells #[V l, V f, .slice bo N bc] 27)) w.heap.size #[V l, V f, .slice ao N ac] := (Box.new _ _ _).alloc _
  have b1 : Box ((w.alloc (.cells #[V l, V f, .slice ao N ac] 27)).alloc (.cells #[V l, V f, .slice bo N bc] 27)) (w.heap.size + 1) #[V l, V f, .slice bo N bc] := Box.newAt (by simp)
  have u0 : Up w ((w.alloc (.cells #[V l, V f, .slice ao N ac] 27)).alloc (.cells #[V l, V f, .slice bo N bc] 27)) := (Up.alloc _ _).trans (Up.alloc _ _)
  go_enter Tryd.func24, Tryd.ntmps24
  go_upto_region 1 with fail
  generalize (w.alloc (.cells #[V l, V f, .slice ao N ac] 27)).alloc (.cells #[V l, V f, .slice bo N bc] 27) = w0 at *
  generalize w.heap.size = B at *
  have HB0 : Hid (Up w w0 ∧ Box w0 B #[V l, V f, .slice ao N ac] ∧ Box w0 (B + 1) #[V l, V f, .slice bo N bc]) := ⟨u0, b0, b1⟩
  obtain ⟨s0, s1, s2⟩ := b0.c3
  obtain ⟨t0, t1, t2⟩ := b1.c3
  clear b0 b1 u0
  go_wp2
  clear s0 s1 s2 t0 t1 t2
  go_loopg [5] N (fun g i wr => ∃ k : Nat, k ≤ N ∧ g = N - k ∧ i = .int .i64 k ∧ Hid (Up w wr ∧ Box wr B #[V l, V f, .slice ao N ac] ∧ Box wr (B + 1) #[V l, V f, .slice bo N bc]))
  case atStart => exact ⟨0, by omega, rfl, rfl, HB0.out⟩
  case round =>
    obtain ⟨k, hk, rfl, rfl, HR⟩ := hrel
    obtain ⟨s0, s1, s2⟩ := HR.out.2.1.c3
    obtain ⟨t0, t1, t2⟩ := HR.out.2.2.c3
    by_cases hlt : k < N
    · have hm : k < xs.length := by rw [HN.out]; exact hlt
      obtain ⟨b, o, rfl, ha⟩ := HX.out.1 (by rintro rfl; simp at hm)
      obtain ⟨b', o', rfl, hb⟩ := HX.out.2 (by rintro rfl; simp at hm)
      obtain ⟨c0, c1, c2, c3, c4, c5, c6, c7, c8⟩ := (ha.block fun hl => HR.out.1.block b hl).at k hm
      obtain ⟨d0, d1, d2, d3, d4, d5, d6, d7, d8⟩ := (hb.block fun hl => HR.out.1.block b' hl).at k hm
      have hne := fun u => ent_neq xs[k] xs[k] u
      have HK : Hid (N - (k + 1) < N - k ∧ k + 1 ≤ N) := ⟨by omega, hlt⟩
      generalize xs[k] = x at *
      rw [show decide (¬ x = x) = false from decide_eq_false (by simp)] at hne
      obtain ⟨S, ⟨pk, pg, ps, pq, pp⟩, lt, li, lc⟩ := x
      simp only at c0 c1 c2 c3 c4 c5 c6 c7 c8 d0 d1 d2 d3 d4 d5 d6 d7 d8 hne
      clear ha hb hm hk HX HB0
      go_wp2_with fail
      go_quiet (fail)
      go_wp2
      go_roundg (N - (k + 1))
      case measure => exact HK.out.1
      case rel => exact ⟨k + 1, HK.out.2, rfl, by go_num, HR.out.1.trans (up_drewN _ _), HR.out.2.1.up (up_drewN _ _), HR.out.2.2.up (up_drewN _ _)⟩
    · obtain rfl : k = N := by omega
      have HU : Hid (Up w wr) := HR.out.1
      clear HR HX HB0
      go_wp2
      go_ret
      exact ⟨rfl, HU.out⟩
end Go.Proofs.YtffldmeocmemeaaDoor

set_option linter.unusedVariables false
set_option linter.unusedSimpArgs false
namespace Go.Proofs.YtffldmeocmemeaaDoor
open Go Go.RowKit

theorem apply_plain {s t : StV} {r : RecV} (h : applyS s (fst64 s.lsn) r = .ok t) : OkS s ∧ OkS t ∧ validR r ∧ fst64 s.lsn = s.lsn + 1 ∧ t.lsn = s.lsn + 1 ∧ t.floor = max s.floor r.floor ∧ chg s.keys r = some t.keys := by
  unfold applyS at h
  split at h
  · rename_i ho
    have hs := (okS_iff s).1 ho
    have hl := step_lsn h
    have ht := step_ok hs h
    unfold stepS at h
    split at h
    · cases h
    · rename_i hv
      split at h
      · cases h
      · split at h
        · cases h
        · rename_i ys hc
          obtain rfl := Except.ok.inj h
          exact ⟨hs, ht, Decidable.not_not.1 hv, fst64_ok hs, hl.2.1.trans hl.1, rfl, hc⟩
  · cases h
theorem lo_lo (k : ByteArray) (xs : List Ent) : lo k (lo k xs) = lo k xs := lo_all fun x hx => (List.mem_filter.1 hx).2
theorem lo_hi (k : ByteArray) (xs : List Ent) : lo k (hi k xs) = [] := lo_none fun x hx => kl_asymm (List.mem_filter.1 hx).2
theorem pl_put (k : ByteArray) (v : Pol × Lev) (xs : List Ent) : pl k (putL k v xs) = pl k xs := by
  unfold pl putL
  rw [lo_app, lo_lo, lo_neg _ (kl_irr k), lo_hi, List.append_nil]
theorem pl_del (k : ByteArray) (xs : List Ent) : pl k (delL k xs) = pl k xs := by
  unfold pl delL
  rw [lo_app, lo_lo, lo_hi, List.append_nil]
theorem get_put' {xs : List Ent} (h : Srt xs) (k : ByteArray) (v : Pol × Lev) : getL k (putL k v xs) = some v := getL_split (srt_put h k v)
theorem get_del' (k : ByteArray) (xs : List Ent) : getL k (delL k xs) = none := getL_miss fun x hx => by
  unfold delL at hx
  rcases List.mem_append.1 hx with h | h
  · exact .inl (List.mem_filter.1 h).2
  · exact .inr (List.mem_filter.1 h).2

/-- What lies where behind a change. -/
structure Put (xs ys : List Ent) (p fr tu : Nat) : Prop where
  ahead : ∀ i, i < p → ys[i]? = xs[i]?
  behind : ∀ i, ys[tu + i]? = xs[fr + i]?
theorem put_of {xs mid : List Ent} {p fr : Nat} (hp : p ≤ xs.length) : Put xs (xs.take p ++ mid ++ xs.drop fr) p fr (p + mid.length) := by
  refine ⟨fun i hi => ?_, fun i => ?_⟩
  · rw [List.append_assoc, List.getElem?_append_left (by rw [List.length_take]; omega), List.getElem?_take, if_pos hi]
  · have e : (xs.take p ++ mid).length = p + mid.length := by rw [List.length_append, List.length_take, Nat.min_eq_left hp]
    rw [List.getElem?_append_right (by rw [e]; omega), e, List.getElem?_drop]
    congr 1
    omega
theorem put_at {xs : List Ent} {e : Ent} {p fr : Nat} (hp : p ≤ xs.length) : (xs.take p ++ [e] ++ xs.drop fr)[p]? = some e := by
  rw [List.append_assoc, List.getElem?_append_right (by rw [List.length_take]; omega), List.length_take, Nat.min_eq_left hp, Nat.sub_self]
  rfl
theorem rises_def {xs ys : List Ent} {r : RecV} (hs : Srt xs) (hk : r.kind = 1) (h : chg xs r = some ys) :
    (getL (kb r) xs).isSome = false ∧ (getL (kb r) ys).isSome = true ∧ pl (kb r) ys = pl (kb r) xs ∧ ys.length = xs.length + 1 ∧ Put xs ys (pl (kb r) xs) (pl (kb r) xs) (pl (kb r) xs + 1) ∧ ys[pl (kb r) xs]? = some (kb r, rPol r, Lev0) := by
  unfold chg at h
  rw [if_pos hk] at h
  split at h
  · cases h
  · rename_i hc
    obtain rfl := Option.some.inj h
    simp only [Bool.or_eq_true, decide_eq_true_eq, not_or] at hc
    have hn : getL (kb r) xs = none := by cases e : getL (kb r) xs with | none => rfl | some v => rw [e] at hc; simp at hc
    have e : putL (kb r) (rPol r, Lev0) xs = xs.take (pl (kb r) xs) ++ [(kb r, rPol r, Lev0)] ++ xs.drop (pl (kb r) xs) := by rw [put_none hs hn]; simp
    have hp := pl_le (kb r) xs
    refine ⟨by rw [hn]; rfl, by rw [get_put' hs]; rfl, pl_put _ _ _, ?_, ?_, ?_⟩
    · rw [length_put hs, hn]; rfl
    · rw [e]; exact put_of hp
    · rw [e]; exact put_at hp
theorem get_lt {xs : List Ent} (hs : Srt xs) {k : ByteArray} {v : Pol × Lev} (h : getL k xs = some v) : pl k xs < xs.length ∧ xs[pl k xs]? = some (k, v) := by
  have hlt : pl k xs < xs.length := by
    rcases Nat.lt_or_ge (pl k xs) xs.length with c | c
    · exact c
    · rw [none_pl hs k (by omega)] at h; cases h
  refine ⟨hlt, ?_⟩
  have hh := here_pl hs k hlt
  rw [h] at hh
  have e : xs[pl k xs].1 = k := by simpa using hh.1
  have e2 := Option.some.inj (hh.2 e)
  rw [List.getElem?_eq_getElem hlt]
  congr 1
  exact Prod.ext e e2.symm
theorem rises_del {xs ys : List Ent} {r : RecV} (hs : Srt xs) (hk : r.kind = 2) (h : chg xs r = some ys) :
    (getL (kb r) xs).isSome = true ∧ (getL (kb r) ys).isSome = false ∧ pl (kb r) ys = pl (kb r) xs ∧ ys.length + 1 = xs.length ∧ Put xs ys (pl (kb r) xs) (pl (kb r) xs + 1) (pl (kb r) xs) := by
  unfold chg at h
  rw [if_neg (by omega), if_pos hk] at h
  split at h
  · rename_i hg
    obtain rfl := Option.some.inj h
    obtain ⟨v, hv⟩ := Option.isSome_iff_exists.1 hg
    have hp := get_lt hs hv
    refine ⟨hg, by rw [get_del']; rfl, pl_del _ _, length_del hs hv, ?_⟩
    have := put_of (xs := xs) (mid := []) (p := pl (kb r) xs) (fr := pl (kb r) xs + 1) (by omega)
    rw [del_some hs hv]
    simpa using this
  · cases h
theorem rises_ceil {xs ys : List Ent} {r : RecV} (hs : Srt xs) (hk : r.kind = 3) (h : chg xs r = some ys) :
    (getL (kb r) xs).isSome = true ∧ (getL (kb r) ys).isSome = true ∧ pl (kb r) ys = pl (kb r) xs ∧ ys.length = xs.length ∧ Put xs ys (pl (kb r) xs) (pl (kb r) xs + 1) (pl (kb r) xs + 1) ∧ pl (kb r) xs < xs.length ∧
      ∃ v : Pol × Lev, xs[pl (kb r) xs]? = some (kb r, v) ∧ ys[pl (kb r) xs]? = some (kb r, v.1, rLev r) ∧ pCov v.1 (rLev r) v.2 = true := by
  unfold chg at h
  rw [if_neg (by omega), if_neg (by omega)] at h
  split at h
  · rename_i v hv
    split at h
    · rename_i hc
      obtain rfl := Option.some.inj h
      simp only [Bool.and_eq_true] at hc
      have hp := get_lt hs hv
      have e : putL (kb r) (v.1, rLev r) xs = xs.take (pl (kb r) xs) ++ [(kb r, v.1, rLev r)] ++ xs.drop (pl (kb r) xs + 1) := by
        rw [put_some hs hv, List.set_eq_take_append_cons_drop, if_pos hp.1]
        simp
      refine ⟨by rw [hv]; rfl, by rw [get_put' hs]; rfl, pl_put _ _ _, by rw [length_put hs, hv]; rfl, ?_, hp.1, v, hp.2, ?_, hc.2⟩
      · rw [e]; exact put_of (by omega)
      · rw [e]; exact put_at (by omega)
    · cases h
  · cases h
theorem SlE.here {w : World} {a : Option Addr} {N c : Nat} {xs : List Ent} (h : SlE w (.slice a N c) xs) (hne : xs ≠ []) : ∃ b o, a = some ⟨b, o, none⟩ ∧ EntsAt w b o xs := by
  obtain ⟨ao, cap, e, _, _, hx⟩ := h
  simp only [Value.slice.injEq] at e
  obtain ⟨rfl, _, _⟩ := e
  exact hx hne
theorem EntsAt.at? {w : World} {b o : Nat} {xs : List Ent} (h : EntsAt w b o xs) {i : Nat} {x : Ent} (hi : xs[i]? = some x) : EntAt w b (o + i * 9) x := by
  obtain ⟨hl, rfl⟩ := List.getElem?_eq_some_iff.1 hi
  exact h.at i hl
end Go.Proofs.YtffldmeocmemeaaDoor

set_option linter.unusedVariables false
set_option linter.unusedSimpArgs false
namespace Go.Proofs.YtffldmeocmemeaaDoor
open Go Go.RowKit

set_option maxRecDepth 20000 in
set_option maxHeartbeats 3200000 in
theorem rises_err (a0 : Option Addr) (l f N c0 F : Nat) (k : Int) (fl : Nat) (S : ByteArray) (pk : Int) (rg rs rl rp rt ri rc : Nat) (w : World) (ad : Nat → Addr) (x : Flw) (hk : ErrSet stErrs errTxt w ad) (hF : fst64 l = F)
    (HL : Hid (∀ u, Up w u → Calls Tryd.prog 10 #[] u fun e w' => e = .returned (.bool true) ∧ Up u w'))
    (HA : Hid (∀ u, Up w u → Calls Tryd.prog 18 #[.agg #[V l, V f, .slice a0 N c0], V F, .agg #[.int .i64 k, V fl, .string S, .int .i64 pk, V rg, V rs, V rl, V rp, V rt, V ri, V rc]] u fun e w' => e = .returned (.tuple #[.agg #[Z, Z, .slice none 0 0], E (ad (gOf x))]) ∧ Up u w')) :
    Calls Tryd.prog 7 #[.agg #[V l, V f, .slice a0 N c0], .agg #[.int .i64 k, V fl, .string S, .int .i64 pk, V rg, V rs, V rl, V rp, V rt, V ri, V rc]] w fun e w' => e = .returned (.bool true) ∧ Up w w' := by
  have HK : Hid (ErrSet stErrs errTxt w ad) := hk
  have e1 : IntKind.u64.wrap ((l : Int) + 1) = (F : Int) := by rw [← hF, IntKind.wrap_u64]; unfold fst64; omega
  clear hk hF
  obtain ⟨B, hB⟩ : ∃ B, w.heap.size = B := ⟨_, rfl⟩
  have u0 : Up w ((w.alloc (.cells #[V l, V f, .slice a0 N c0] 27)).alloc (.cells #[.int .i64 k, V fl, .string S, .int .i64 pk, V rg, V rs, V rl, V rp, V rt, V ri, V rc] 39)) := (Up.alloc _ _).trans (Up.alloc _ _)
  have bs : Box ((w.alloc (.cells #[V l, V f, .slice a0 N c0] 27)).alloc (.cells #[.int .i64 k, V fl, .string S, .int .i64 pk, V rg, V rs, V rl, V rp, V rt, V ri, V rc] 39)) w.heap.size #[V l, V f, .slice a0 N c0] := (Box.new _ _ _).alloc _
  have br : Box ((w.alloc (.cells #[V l, V f, .slice a0 N c0] 27)).alloc (.cells #[.int .i64 k, V fl, .string S, .int .i64 pk, V rg, V rs, V rl, V rp, V rt, V ri, V rc] 39)) (w.heap.size + 1) #[.int .i64 k, V fl, .string S, .int .i64 pk, V rg, V rs, V rl, V rp, V rt, V ri, V rc] := Box.newAt (by simp)
  rw [hB] at bs br
  go_enter Tryd.func7, Tryd.ntmps7
  go_upto_region 1 with fail
  clear hB
  generalize (w.alloc (.cells #[V l, V f, .slice a0 N c0] 27)).alloc (.cells #[.int .i64 k, V fl, .string S, .int .i64 pk, V rg, V rs, V rl, V rp, V rt, V ri, V rc] 39) = w0 at *
  go_wp2_with fail
  refine (HL.out _ u0).mono ?_
  rintro e w1 ⟨rfl, u1⟩
  have U := u0.trans u1
  replace bs := bs.up u1
  replace br := br.up u1
  clear u0 u1 HL
  obtain ⟨s0, s1, s2⟩ := bs.c3
  obtain ⟨c0', c1', c2', c3', c4', c5', c6', c7', c8', c9', c10'⟩ := br.c11
  go_wp2_with fail
  refine (HA.out _ U).mono ?_
  rintro e w2 ⟨rfl, u2⟩
  replace U := U.trans u2
  have U3 := U.trans (Up.alloc w2 (.cells #[Z, Z, .slice none 0 0] 27))
  have bt : Box (w2.alloc (.cells #[Z, Z, .slice none 0 0] 27)) w2.heap.size #[Z, Z, .slice none 0 0] := Box.new _ _ _
  clear bs br u2 HA U s0 s1 s2 c0' c1' c2' c3' c4' c5' c6' c7' c8' c9' c10'
  go_upto_region 4 with fail
  generalize w2.alloc (.cells #[Z, Z, .slice none 0 0] 27) = w3 at *
  generalize w2.heap.size = BT at *
  have hk := HK.out.up U3
  obtain ⟨s0, s1, s2⟩ := bt.c3
  have gA := (hk 0 (by decide)).1.cell
  have gG := (hk 2 (by decide)).1.cell
  have gL := (hk 1 (by decide)).1.cell
  have qG1 := eq_other (hk 2 (by decide)).2 (hk 0 (by decide)).2 (errTxt_unlike _ (by decide) _ (by decide) (by decide))
  have qG2 := eq_other (hk 2 (by decide)).2 (hk 1 (by decide)).2 (errTxt_unlike _ (by decide) _ (by decide) (by decide))
  have qL1 := eq_other (hk 1 (by decide)).2 (hk 0 (by decide)).2 (errTxt_unlike _ (by decide) _ (by decide) (by decide))
  have qS := fun a => eq_same a w3
  cases x
  all_goals
    unfold gOf
    generalize ad 0 = aA at *
    generalize ad 2 = aG at *
    generalize ad 1 = aL at *
    clear hk bt
    go_wp2
    go_ret
    exact ⟨rfl, U3⟩
end Go.Proofs.YtffldmeocmemeaaDoor

/- Merged: StRfF, StRfG. -/
import Derived.Test.YtdddfapelencoaaDoorLrA
import Derived.Test.YtdddfapelencoaaDoorLrB
set_option linter.unusedVariables false
set_option linter.unusedSimpArgs false
namespace Go.Proofs.YtdddfapelencoaaDoor
open Go Go.RowKit

/-- The reference's number of a refusal. -/
def numF : Flw → Nat
  | .arg => 1
  | .gap => 11
  | .log => 12
/-- What the reference's step leaves. -/
def RPost (sb base : Nat) (w : World) (o : Except Flw StV) (e : Ending) (w' : World) : Prop :=
  match o with
  | .error x => e = .returned (.int .i64 (numF x : Nat)) ∧ Up w w'
  | .ok t => e = .returned (.int .i64 0) ∧ ∃ v', Box w' sb #[V t.lsn, V t.floor, v'] ∧ OwnE w' base v' t.keys ∧ Touch w w' (Rb sb base w.heap.size)

set_option maxRecDepth 20000 in
set_option maxHeartbeats 1600000 in
theorem rstep_any (sb base l f n : Nat) (v : Value) (xs : List Ent) (r : RecV) (w : World) (hb : Box w sb #[V l, V f, v]) (ho : OwnE w base v xs) (hs : OkS ⟨l, f, xs⟩) (hbase : base ≤ w.heap.size) :
    Calls Tryd.prog 31 #[.pointer (some ⟨sb, 0, none⟩), V n, RV r] w (RPost sb base w (stepS ⟨l, f, xs⟩ n r)) := by
  have hV := fun u => qValid_any r u
  have hl : l ≤ 4611686018427387904 := hs.lsn
  have hN : xs.length ≤ 4096 := hs.len
  have hsr : Srt xs := hs.srt
  obtain ⟨a0, cp, rfl⟩ := ho.shape
  unfold stepS
  by_cases hr : validR r
  · rw [if_neg (Decidable.not_not.2 hr)]
    rw [decide_eq_true hr] at hV
    have hks : (kb r).size ≤ 9223372036854775807 := by rw [key_size r.key]; have := hr.2.1; omega
    have hF : ∀ u, Up w u → Calls Tryd.prog 10 #[.agg #[V l, V f, .slice a0 xs.length cp], .string (kb r)] u fun e w' => e = .returned (.tuple #[.int .i64 (pl (kb r) xs : Nat), .bool (getL (kb r) xs).isSome]) ∧ Up u w' := fun u uu =>
      (rFind_any _ l f xs (kb r) u (ho.sl.up uu) (by omega) hks (fun x hx => by have := (hs.each x hx).2.1; omega)).mono (by
        rintro e w' ⟨i, o, rfl, ⟨_, h2⟩, h3⟩
        obtain ⟨rfl, rfl⟩ := h2 hsr
        exact ⟨rfl, h3⟩)
    have hp := pl_le (kb r) xs
    by_cases h0 : 4611686018427387904 ≤ l
    · rw [if_pos ((Nat.lt_or_ge 4611686018427387904 n).elim Or.inr (fun h => Or.inl (by show n ≠ l + 1; omega)))]
      exact rstep_top sb l f n xs.length cp 0 a0 _ _ _ _ _ _ _ _ _ _ _ w hb hV h0
    by_cases h1 : n = l + 1
    · rw [if_neg (by simp only [not_or, Decidable.not_not]; exact ⟨h1, by omega⟩)]
      have hlt : l < 4611686018427387904 := by omega
      show Calls _ _ _ _ (RPost sb base w (match chg xs r with | none => .error .log | some ys => .ok ⟨n, max f r.floor, ys⟩))
      unfold chg
      by_cases k1 : r.kind = 1
      · rw [if_pos k1]
        cases hg : (getL (kb r) xs).isSome with
        | true =>
          rw [if_pos (by simp)]
          rw [hg] at hF
          have := rstep_def_there sb l f n xs.length cp (pl (kb r) xs) a0 r.floor (kb r) r.pk r.gap r.slack r.limit r.span r.tat r.idx r.cnt w hb (by rw [← k1]; exact hV) hlt h1 hp hN hF
          rw [← k1] at this
          exact this
        | false =>
          rw [hg] at hF
          by_cases hf : 4096 ≤ xs.length
          · rw [if_pos (by simp [hf])]
            have := rstep_def_full sb l f n xs.length cp (pl (kb r) xs) a0 r.floor (kb r) r.pk r.gap r.slack r.limit r.span r.tat r.idx r.cnt w hb (by rw [← k1]; exact hV) hlt h1 hp hN hF hf
            rw [← k1] at this
            exact this
          · rw [if_neg (by simp [hf])]
            have hn : getL (kb r) xs = none := by cases h : getL (kb r) xs with | none => rfl | some x => rw [h] at hg; cases hg
            have := rstep_def sb l f n xs.length cp (pl (kb r) xs) a0 r.floor (kb r) r.pk r.gap r.slack r.limit r.span r.tat r.idx r.cnt w hb (by rw [← k1]; exact hV) hlt h1 hp hN hF base xs ho rfl (by omega) hbase
            rw [← k1] at this
            refine this.mono ?_
            rintro e w' ⟨rfl, v', h1, h2, h3⟩
            exact ⟨rfl, v', h1, by rw [put_none hsr hn]; exact h2, h3⟩
      · rw [if_neg k1]
        by_cases k2 : r.kind = 2
        · rw [if_pos k2]
          cases hg : (getL (kb r) xs).isSome with
          | false =>
            rw [if_neg (by simp)]
            rw [hg] at hF
            have := rstep_del_none sb l f n xs.length cp (pl (kb r) xs) a0 r.floor (kb r) r.pk r.gap r.slack r.limit r.span r.tat r.idx r.cnt w hb (by rw [← k2]; exact hV) hlt h1 hp hN hF
            rw [← k2] at this
            exact this
          | true =>
            rw [if_pos rfl]
            rw [hg] at hF
            obtain ⟨u, hu⟩ := Option.isSome_iff_exists.1 hg
            have hlp : pl (kb r) xs < xs.length := by
              rcases Nat.lt_or_ge (pl (kb r) xs) xs.length with h | h
              · exact h
              · rw [none_pl hsr (kb r) (by omega)] at hu; cases hu
            obtain ⟨g, cap, e, _, _⟩ := ownE_some ho (by rintro rfl; simp at hlp)
            simp only [Value.slice.injEq] at e
            obtain ⟨rfl, _, rfl⟩ := e
            have := rstep_del sb l f n xs.length cp (pl (kb r) xs) g r.floor (kb r) r.pk r.gap r.slack r.limit r.span r.tat r.idx r.cnt w hb (by rw [← k2]; exact hV) hlt h1 hp hN hF base xs ho rfl hlp hbase _ rfl
            rw [← k2] at this
            refine this.mono ?_
            rintro e w' ⟨rfl, v', h1, h2, h3⟩
            exact ⟨rfl, v', h1, by rw [del_some hsr hu]; exact h2, h3⟩
        · rw [if_neg k2]
          have k3 : r.kind = 3 := by
            rcases hr.2.2 with h | h | h
            · exact absurd h.1 k1
            · exact absurd h.1 k2
            · exact h.1
          cases hg : getL (kb r) xs with
          | none =>
            rw [hg] at hF
            have := rstep_ceil_none sb l f n xs.length cp (pl (kb r) xs) a0 r.floor (kb r) r.pk r.gap r.slack r.limit r.span r.tat r.idx r.cnt w hb (by rw [← k3]; exact hV) hlt h1 hp hN hF
            rw [← k3] at this
            exact this
          | some u =>
            rw [hg] at hF
            have hlp : pl (kb r) xs < xs.length := by
              rcases Nat.lt_or_ge (pl (kb r) xs) xs.length with h | h
              · exact h
              · rw [none_pl hsr (kb r) (by omega)] at hg; cases hg
            have hkey : xs[pl (kb r) xs].1 = kb r := by
              have h1 := (here_pl hsr (kb r) hlp).1
              rw [hg] at h1
              exact of_decide_eq_true h1.symm
            have hu : xs[pl (kb r) xs].2 = u := by
              have h1 := (here_pl hsr (kb r) hlp).2 hkey
              rw [hg] at h1
              exact (Option.some.inj h1).symm
            obtain ⟨g, cap, e, _, _⟩ := ownE_some ho (by rintro rfl; simp at hlp)
            simp only [Value.slice.injEq] at e
            obtain ⟨rfl, _, rfl⟩ := e
            have hat := ho.here _ hlp
            have hx : xs[pl (kb r) xs] = (kb r, u) := Prod.ext hkey hu
            rw [hx] at hat
            have hfc := fun w => rfits_call u.1 (rLev r) w
            have hvc := fun w => rcovers_call u.1 (rLev r) u.2 w
            obtain ⟨⟨pk, pg, ps, pq, pp⟩, lt, li, lc⟩ := u
            cases hz1 : pFits ⟨pk, pg, ps, pq, pp⟩ (rLev r) with
            | false =>
              rw [hz1] at hfc
              have := rstep_ceil_unfit sb l f n xs.length cp (pl (kb r) xs) g r.floor (kb r) r.pk r.gap r.slack r.limit r.span r.tat r.idx r.cnt w hb (by rw [← k3]; exact hV) hlt h1 hp hN hF hlp _ _ _ _ _ _ _ _ _ hat hfc
              rw [← k3] at this
              simp only [hz1, Bool.false_and, Bool.false_eq_true, if_false]
              exact this
            | true =>
              rw [hz1] at hfc
              cases hz2 : pCov ⟨pk, pg, ps, pq, pp⟩ (rLev r) ⟨lt, li, lc⟩ with
              | false =>
                rw [hz2] at hvc
                have := rstep_ceil_below sb l f n xs.length cp (pl (kb r) xs) g r.floor (kb r) r.pk r.gap r.slack r.limit r.span r.tat r.idx r.cnt w hb (by rw [← k3]; exact hV) hlt h1 hp hN hF hlp _ _ _ _ _ _ _ _ _ hat hfc hvc
                rw [← k3] at this
                simp only [hz1, hz2, Bool.and_false, Bool.false_eq_true, if_false]
                exact this
              | true =>
                rw [hz2] at hvc
                have := rstep_ceil sb l f n xs.length cp (pl (kb r) xs) g r.floor (kb r) r.pk r.gap r.slack r.limit r.span r.tat r.idx r.cnt w hb (by rw [← k3]; exact hV) hlt h1 hp hN hF hlp _ _ _ _ _ _ _ _ _ hat hfc hvc base xs (xs.set (pl (kb r) xs) (kb r, (⟨pk, pg, ps, pq, pp⟩, rLev r))) ho rfl hbase (fun h => by rw [hx])
                rw [← k3] at this
                simp only [hz1, hz2, Bool.and_self, if_true]
                refine this.mono ?_
                rintro e w' ⟨rfl, v', h1, h2, h3⟩
                exact ⟨rfl, v', h1, by rw [put_some hsr hg]; exact h2, h3⟩
    · rw [if_pos (Or.inl h1)]
      exact rstep_gap sb l f n xs.length cp 0 a0 _ _ _ _ _ _ _ _ _ _ _ w hb hV (by omega) h1
  · rw [if_pos hr]
    rw [decide_eq_false hr] at hV
    exact rstep_arg sb l f n xs.length cp 0 a0 _ _ _ _ _ _ _ _ _ _ _ w hb hV
end Go.Proofs.YtdddfapelencoaaDoor

set_option linter.unusedVariables false
set_option linter.unusedSimpArgs false
namespace Go.Proofs.YtdddfapelencoaaDoor
open Go Go.RowKit

theorem ecs_zeros (N : Nat) : (madeCells (EC ent0).toArray (N * 9)).toList = Ecs (List.replicate N ent0) := by
  refine List.ext_getElem? fun k => ?_
  by_cases hk : k < N * 9
  · have h1 := Ecs_at (List.replicate N ent0) (k / 9) (by rw [List.length_replicate]; omega) (k % 9) (Nat.mod_lt _ (by decide))
    rw [List.getElem_replicate, show k / 9 * 9 + k % 9 = k by omega] at h1
    rw [h1]
    have h2 : k % 9 < (EC ent0).length := Nat.mod_lt _ (by decide)
    rw [List.getElem?_eq_getElem h2]
    simp only [madeCells, Array.getElem?_toList, Array.getElem?_map, Array.getElem?_range, hk, if_true, Option.map_some, List.size_toArray]
    have h3 : k % (EC ent0).length < (EC ent0).length := h2
    rw [getElem!_pos (EC ent0).toArray (k % (EC ent0).length) (by simpa using h3)]
    rfl
  · rw [List.getElem?_eq_none (by simp [size_madeCells]; omega), List.getElem?_eq_none (by rw [Ecs_length, List.length_replicate]; omega)]
theorem mk_ents (N : Nat) (hN : N ≤ 4096) (u : World) : (Instr.makeSlice 25 (.int .i64 (N : Int)) (.int .i64 (N : Int))).run Tryd.prog u = .ok (.slice (some ⟨u.heap.size, 0, none⟩) N N) (u.alloc (.cells (madeCells (EC ent0).toArray (N * 9)) 58)) := by
  obtain ⟨i0, hi, hz0, hz1, hz2⟩ := info_parts Tryd.infoEntR
  have h := run_make (P := Tryd.prog) u 25 58 i0 _ Tryd.underlying25 hi hz0 .i64 .i64 (N : Int) (N : Int) (by omega) (by omega) (by rw [hz2]; omega) (by omega)
  simp only [Int.toNat_natCast, hz1] at h
  exact h
theorem own_zerosE (N : Nat) (hN : N ≤ 4096) (base : Nat) (u : World) (hb : base ≤ u.heap.size) : OwnE (u.alloc (.cells (madeCells (EC ent0).toArray (N * 9)) 58)) base (.slice (some ⟨u.heap.size, 0, none⟩) N N) (List.replicate N ent0) := by
  have h := OwnE.mk (base := base) (xs := List.replicate N ent0) (cap := N) hb (heap_alloc_new u (.cells (madeCells (EC ent0).toArray (N * 9)) 58)) (by simp) (by unfold maxLen; omega) (by rw [size_madeCells]) (by
    rw [ecs_zeros, List.length_replicate, List.take_of_length_le (by rw [Ecs_length, List.length_replicate]; exact Nat.le_refl _)])
  rw [List.length_replicate] at h
  exact h
theorem cp_set (xs : List Ent) (N j : Nat) (y : Ent) (hN : xs.length = N) (hj : j < N) (hy : xs[j]? = some y) : (xs.take j ++ List.replicate (N - j) ent0).set j y = xs.take (j + 1) ++ List.replicate (N - (j + 1)) ent0 := by
  have hl : (xs.take j).length = j := by rw [List.length_take]; omega
  rw [List.set_append_right _ _ (by omega), hl, Nat.sub_self, show N - j = (N - (j + 1)) + 1 by omega, List.replicate_succ, List.set_cons_zero, List.take_add_one, hy]
  simp
theorem cp_len (xs : List Ent) (N j : Nat) (hN : xs.length = N) (hj : j ≤ N) : (xs.take j ++ List.replicate (N - j) ent0).length = N := by
  simp only [List.length_append, List.length_take, List.length_replicate]; omega

/-- What Copied keeps. -/
structure Cs (B b2 g l f N cp : Nat) (ao : Option Addr) (rows : List Ent) (w u : World) : Prop where
  a : Box u B #[V l, V f, .slice ao N cp]
  z : Box u (B + 1) #[V 0, V 0, .slice none 0 0]
  o : Box u b2 #[V l, V f, .slice (some ⟨g, 0, none⟩) N N]
  own : OwnE u B (.slice (some ⟨g, 0, none⟩) N N) rows
  up : Up w u
  e : w.heap.size = B
  n1 : B + 1 < b2
  n2 : B + 1 < g
  n3 : g ≠ b2
theorem Cs.on {B b2 g l f N cp : Nat} {ao : Option Addr} {rows : List Ent} {w u u' : World} (h : Cs B b2 g l f N cp ao rows w u) (k : Up u u') : Cs B b2 g l f N cp ao rows w u' :=
  ⟨h.a.up k, h.z.up k, h.o.up k, h.own.up k, h.up.trans k, h.e, h.n1, h.n2, h.n3⟩
theorem Cs.put {B b2 g l f N cp : Nat} {ao : Option Addr} {rows : List Ent} {w u : World} (h : Cs B b2 g l f N cp ao rows w u) (i : Nat) (hi : i < rows.length) (y : Ent) : Cs B b2 g l f N cp ao (rows.set i y) w (u.setCells g (i * 9) (EC y)) := by
  obtain ⟨o, t⟩ := h.own.put i hi y
  have h1 := h.n1
  have h2 := h.n2
  have h3 := h.n3
  have h4 := h.e
  exact ⟨Touch.box h.a t (by simp only [List.mem_singleton]; omega), Touch.box h.z t (by simp only [List.mem_singleton]; omega), Touch.box h.o t (by simp only [List.mem_singleton]; omega), o, ((Touch.of_up h.up [g]).trans t (fun k hk => .inl hk)).up (fun k hk => by simp only [List.mem_singleton] at hk; omega), h.e, h.n1, h.n2, h.n3⟩

set_option maxRecDepth 20000 in
set_option maxHeartbeats 3200000 in
theorem rCopied_any (v : Value) (l f : Nat) (xs : List Ent) (w : World) (h : SlE w v xs) (hl : xs.length ≤ 4096) :
    Calls Tryd.prog 30 #[.agg #[V l, V f, v]] w fun e w' => ∃ v', e = .returned (.agg #[V l, V f, v']) ∧ OwnE w' w.heap.size v' xs ∧ Up w w' := by
  obtain ⟨ao, cp, rfl⟩ := h.shape
  obtain ⟨N, hN⟩ : ∃ N, xs.length = N := ⟨_, rfl⟩
  rw [hN] at h hl ⊢
  have HS : Hid (SlE w (.slice ao N cp) xs ∧ xs.length = N ∧ N ≤ 4096) := ⟨h, hN, hl⟩
  have hN1 : (N : Int) ≤ 4096 := by omega
  have hmk := mk_ents N hl
  have u0 : Up w ((w.alloc (.cells #[V l, V f, .slice ao N cp] 27)).alloc (.cells #[V 0, V 0, .slice none 0 0] 27)) := (Up.alloc _ _).trans (Up.alloc _ _)
  have b0 : Box ((w.alloc (.cells #[V l, V f, .slice ao N cp] 27)).alloc (.cells #[V 0, V 0, .slice none 0 0] 27)) w.heap.size #[V l, V f, .slice ao N cp] := (Box.new _ _ _).alloc _
  have bz : Box ((w.alloc (.cells #[V l, V f, .slice ao N cp] 27)).alloc (.cells #[V 0, V 0, .slice none 0 0] 27)) (w.heap.size + 1) #[V 0, V 0, .slice none 0 0] := Box.newAt (by simp)
  clear h hl hN
  go_enter Tryd.func30, Tryd.ntmps30
  go_upto_region 1 with fail
  generalize (w.alloc (.cells #[V l, V f, .slice ao N cp] 27)).alloc (.cells #[V 0, V 0, .slice none 0 0] 27) = w0 at *
  obtain ⟨B, hB⟩ : ∃ B, w.heap.size = B := ⟨_, rfl⟩
  have HB : Hid (w.heap.size = B) := hB
  rw [hB] at b0 bz
  rw [hB]
  clear hB
  go_cut [3] (fun x3 wx => ∃ b2 g : Nat, x3 = .pointer (some ⟨b2, 0, none⟩) ∧ Hid (Cs B b2 g l f N cp ao (List.replicate N ent0) w wx))
  case first =>
    replace u0 := u0.trans (Up.drew w0)
    replace b0 := b0.up (Up.drew w0)
    replace bz := bz.up (Up.drew w0)
    have hr := b0
    refine wp_region_held_drew (S := fun u => Box u B #[V l, V f, .slice ao N cp]) (by kernel_rfl) hr (fun hs0 => ?_)
    clear hs0
    generalize w0.drew = wd at *
    refine take_to (some 5) (i := 0) (v := .pointer (some ⟨B, 0, none⟩)) rfl rfl (by kernel_rfl) (by kernel_rfl) (by kernel_rfl) (fun _ _ _ h => h) (Or.inl ⟨by kernel_rfl, by intro u hSu; go_simp⟩) hr ?_
    simp only [Act.put, List.setIfInBounds_toArray, List.set_cons_zero, List.set_cons_succ]
    refine take_to (some 6) (i := 1) (v := V l) rfl rfl (by kernel_rfl) (by kernel_rfl) (by kernel_rfl) (fun _ _ _ h => h) (Or.inl ⟨by kernel_rfl, by intro u hSu; obtain ⟨s0, s1, s2⟩ := Box.c3 hSu; go_simp⟩) hr ?_
    simp only [Act.put, List.setIfInBounds_toArray, List.set_cons_zero, List.set_cons_succ]
    refine take_to (some 7) (i := 2) (v := .pointer (some ⟨B, 1, none⟩)) rfl rfl (by kernel_rfl) (by kernel_rfl) (by kernel_rfl) (fun _ _ _ h => h) (Or.inl ⟨by kernel_rfl, by intro u hSu; go_simp⟩) hr ?_
    simp only [Act.put, List.setIfInBounds_toArray, List.set_cons_zero, List.set_cons_succ]
    refine take_to (some 8) (i := 3) (v := V f) rfl rfl (by kernel_rfl) (by kernel_rfl) (by kernel_rfl) (fun _ _ _ h => h) (Or.inl ⟨by kernel_rfl, by intro u hSu; obtain ⟨s0, s1, s2⟩ := Box.c3 hSu; go_simp⟩) hr ?_
    simp only [Act.put, List.setIfInBounds_toArray, List.set_cons_zero, List.set_cons_succ]
    refine take_to (some 9) (i := 4) (v := .pointer (some ⟨B, 2, none⟩)) rfl rfl (by kernel_rfl) (by kernel_rfl) (by kernel_rfl) (fun _ _ _ h => h) (Or.inl ⟨by kernel_rfl, by intro u hSu; go_simp⟩) hr ?_
    simp only [Act.put, List.setIfInBounds_toArray, List.set_cons_zero, List.set_cons_succ]
    refine take_to (some 10) (i := 5) (v := .slice ao N cp) rfl rfl (by kernel_rfl) (by kernel_rfl) (by kernel_rfl) (fun _ _ _ h => h) (Or.inl ⟨by kernel_rfl, by intro u hSu; obtain ⟨s0, s1, s2⟩ := Box.c3 hSu; go_simp⟩) hr ?_
    simp only [Act.put, List.setIfInBounds_toArray, List.set_cons_zero, List.set_cons_succ]
    refine take_to (some 11) (i := 6) (v := .int .i64 (N : Int)) rfl rfl (by kernel_rfl) (by kernel_rfl) (by kernel_rfl) (fun _ _ _ h => h) (Or.inl ⟨by kernel_rfl, by intro u hSu; go_simp⟩) hr ?_
    simp only [Act.put, List.setIfInBounds_toArray, List.set_cons_zero, List.set_cons_succ]
    refine wpAnyH_ready (rs := [7, 9]) (by kernel_rfl) (by simp) ?_
    refine AllReadyH.cons rfl (fun K hK => ?_) (AllReadyH.cons rfl (fun K hK => ?_) AllReadyH.nil)
    · skip
      have hz := bz.lt
      go_simp
      have ow := own_zerosE N HS.out.2.2 B wd (by omega)
      have hsz : (wd.alloc (.cells (madeCells (EC ent0).toArray (N * 9)) 58)).heap.size = wd.heap.size + 1 := by simp
      replace u0 := u0.trans (Up.alloc wd (.cells (madeCells (EC ent0).toArray (N * 9)) 58))
      replace bz := bz.alloc (.cells (madeCells (EC ent0).toArray (N * 9)) 58)
      replace hr := hr.alloc (.cells (madeCells (EC ent0).toArray (N * 9)) 58)
      refine hK.out _ _ hr (fun _ => ?_)
      clear hK K b0
      obtain ⟨g, hg⟩ : ∃ g, wd.heap.size = g := ⟨_, rfl⟩
      rw [hg] at ow hsz hz
      (try rw [hg])
      generalize wd.alloc (.cells (madeCells (EC ent0).toArray (N * 9)) 58) = wa at *
      have HSZ : Hid (wa.heap.size = g + 1) := hsz
      clear hsz
      refine take_to (some 13) (i := 8) (v := .agg #[V l, V f, .slice (some ⟨g, 0, none⟩) N N]) rfl rfl (by kernel_rfl) (by kernel_rfl) (by kernel_rfl) (fun _ _ _ h => h) (Or.inl ⟨by kernel_rfl, by intro u hSu; go_simp⟩) hr ?_
      simp only [Act.put, List.setIfInBounds_toArray, List.set_cons_zero, List.set_cons_succ]
      refine wpAnyH_ready (rs := [9]) (by kernel_rfl) (by simp) ?_
      refine AllReadyH.cons rfl (fun K hK => ?_) AllReadyH.nil
      go_simp
      have bo : Box (wa.alloc (.cells #[V 0, V 0, .slice none 0 0] 27)) wa.heap.size #[V 0, V 0, .slice none 0 0] := Box.new _ _ _
      replace u0 := u0.trans (Up.alloc wa (.cells #[V 0, V 0, .slice none 0 0] 27))
      replace bz := bz.alloc (.cells #[V 0, V 0, .slice none 0 0] 27)
      replace hr := hr.alloc (.cells #[V 0, V 0, .slice none 0 0] 27)
      replace ow := ow.up (Up.alloc wa (.cells #[V 0, V 0, .slice none 0 0] 27))
      refine hK.out _ _ hr (fun _ => ?_)
      clear hK K
      obtain ⟨b2, hb2⟩ : ∃ b2, wa.heap.size = b2 := ⟨_, rfl⟩
      have HS2 : Hid (b2 = g + 1) := by have := HSZ.out; show b2 = g + 1; omega
      rw [hb2] at bo
      (try rw [hb2])
      generalize wa.alloc (.cells #[V 0, V 0, .slice none 0 0] 27) = wb at *
      refine wpAnyH_ready (rs := [10]) (by kernel_rfl) (by simp) ?_
      refine AllReadyH.cons rfl (fun K hK => ?_) AllReadyH.nil
      obtain ⟨z0, z1, z2⟩ := bo.c3
      have zf := bo.frozen
      go_simp
      have hsz := HS2.out
      have bo2 := bo.set3 (x := V l) (y := V f) (z := .slice (some ⟨g, 0, none⟩) N N)
      have hset : Touch wb (((wb.setCell ⟨b2, 0, none⟩ (V l)).setCell ⟨b2, 1, none⟩ (V f)).setCell ⟨b2, 2, none⟩ (.slice (some ⟨g, 0, none⟩) N N)) [b2] := (((Touch.refl _ [b2]).setCell (.inl (by simp)) 0 _).setCell (.inl (by simp)) 1 _).setCell (.inl (by simp)) 2 _
      have hC : Cs B b2 g l f N cp ao (List.replicate N ent0) w (((wb.setCell ⟨b2, 0, none⟩ (V l)).setCell ⟨b2, 1, none⟩ (V f)).setCell ⟨b2, 2, none⟩ (.slice (some ⟨g, 0, none⟩) N N)) := ⟨Touch.box hr hset (by simp only [List.mem_singleton]; omega), Touch.box bz hset (by simp only [List.mem_singleton]; omega), bo2, OwnE.kept ow hset (fun k hk => by simp [ob, Value.ownBlock] at hk; subst hk; simp only [List.mem_singleton]; omega), ((Touch.of_up u0 [b2]).trans hset (fun k hk => .inl hk)).up (fun k hk => by simp only [List.mem_singleton] at hk; have := HB.out; omega), HB.out, by omega, by omega, by omega⟩
      refine hK.out _ _ hC.a (fun _ => ?_)
      clear hK K
      refine wpAnyH_done (by kernel_rfl) ?_ _
      go_wp2_with fail
      go_meet
      case rel => exact ⟨b2, g, rfl, hC⟩
    · skip
      have hz := bz.lt
      go_simp
      have bo : Box (wd.alloc (.cells #[V 0, V 0, .slice none 0 0] 27)) wd.heap.size #[V 0, V 0, .slice none 0 0] := Box.new _ _ _
      have hsz : (wd.alloc (.cells #[V 0, V 0, .slice none 0 0] 27)).heap.size = wd.heap.size + 1 := by simp
      replace u0 := u0.trans (Up.alloc wd (.cells #[V 0, V 0, .slice none 0 0] 27))
      replace bz := bz.alloc (.cells #[V 0, V 0, .slice none 0 0] 27)
      replace hr := hr.alloc (.cells #[V 0, V 0, .slice none 0 0] 27)
      refine hK.out _ _ hr (fun _ => ?_)
      clear hK K b0
      obtain ⟨b2, hb2⟩ : ∃ b2, wd.heap.size = b2 := ⟨_, rfl⟩
      rw [hb2] at bo hsz hz
      (try rw [hb2])
      generalize wd.alloc (.cells #[V 0, V 0, .slice none 0 0] 27) = wa at *
      have HSZ : Hid (wa.heap.size = b2 + 1) := hsz
      clear hsz
      refine wpAnyH_ready (rs := [7]) (by kernel_rfl) (by simp) ?_
      refine AllReadyH.cons rfl (fun K hK => ?_) AllReadyH.nil
      go_simp
      have ow := own_zerosE N HS.out.2.2 B wa (by have := HSZ.out; omega)
      replace u0 := u0.trans (Up.alloc wa (.cells (madeCells (EC ent0).toArray (N * 9)) 58))
      replace bz := bz.alloc (.cells (madeCells (EC ent0).toArray (N * 9)) 58)
      replace hr := hr.alloc (.cells (madeCells (EC ent0).toArray (N * 9)) 58)
      replace bo := bo.alloc (.cells (madeCells (EC ent0).toArray (N * 9)) 58)
      refine hK.out _ _ hr (fun _ => ?_)
      clear hK K
      obtain ⟨g, hg⟩ : ∃ g, wa.heap.size = g := ⟨_, rfl⟩
      have HS2 : Hid (g = b2 + 1) := by have := HSZ.out; show g = b2 + 1; omega
      rw [hg] at ow
      (try rw [hg])
      generalize wa.alloc (.cells (madeCells (EC ent0).toArray (N * 9)) 58) = wb at *
      refine take_to (some 13) (i := 8) (v := .agg #[V l, V f, .slice (some ⟨g, 0, none⟩) N N]) rfl rfl (by kernel_rfl) (by kernel_rfl) (by kernel_rfl) (fun _ _ _ h => h) (Or.inl ⟨by kernel_rfl, by intro u hSu; go_simp⟩) hr ?_
      simp only [Act.put, List.setIfInBounds_toArray, List.set_cons_zero, List.set_cons_succ]
      refine wpAnyH_ready (rs := [10]) (by kernel_rfl) (by simp) ?_
      refine AllReadyH.cons rfl (fun K hK => ?_) AllReadyH.nil
      obtain ⟨z0, z1, z2⟩ := bo.c3
      have zf := bo.frozen
      go_simp
      have hsz := HS2.out
      have bo2 := bo.set3 (x := V l) (y := V f) (z := .slice (some ⟨g, 0, none⟩) N N)
      have hset : Touch wb (((wb.setCell ⟨b2, 0, none⟩ (V l)).setCell ⟨b2, 1, none⟩ (V f)).setCell ⟨b2, 2, none⟩ (.slice (some ⟨g, 0, none⟩) N N)) [b2] := (((Touch.refl _ [b2]).setCell (.inl (by simp)) 0 _).setCell (.inl (by simp)) 1 _).setCell (.inl (by simp)) 2 _
      have hC : Cs B b2 g l f N cp ao (List.replicate N ent0) w (((wb.setCell ⟨b2, 0, none⟩ (V l)).setCell ⟨b2, 1, none⟩ (V f)).setCell ⟨b2, 2, none⟩ (.slice (some ⟨g, 0, none⟩) N N)) := ⟨Touch.box hr hset (by simp only [List.mem_singleton]; omega), Touch.box bz hset (by simp only [List.mem_singleton]; omega), bo2, OwnE.kept ow hset (fun k hk => by simp [ob, Value.ownBlock] at hk; subst hk; simp only [List.mem_singleton]; omega), ((Touch.of_up u0 [b2]).trans hset (fun k hk => .inl hk)).up (fun k hk => by simp only [List.mem_singleton] at hk; have := HB.out; omega), HB.out, by omega, by omega, by omega⟩
      refine hK.out _ _ hC.a (fun _ => ?_)
      clear hK K
      refine wpAnyH_done (by kernel_rfl) ?_ _
      go_wp2_with fail
      go_meet
      case rel => exact ⟨b2, g, rfl, hC⟩
  case rest =>
    obtain ⟨b2, g, rfl, HC⟩ := hcut
    clear u0 b0 bz hmk
    go_wp2
    go_loopg [4] N (fun g8 x wr => ∃ j : Nat, j ≤ N ∧ g8 = N - j ∧ x = .int .i64 j ∧ Hid (Cs B b2 g l f N cp ao (xs.take j ++ List.replicate (N - j) ent0) w wr))
    case atStart => exact ⟨0, by omega, rfl, rfl, HC.out⟩
    case round =>
      clear HC
      obtain ⟨j, hj, rfl, rfl, HF⟩ := hrel
      obtain ⟨s0, s1, s2⟩ := HF.out.a.c3
      by_cases hlt : j < N
      · have hlt' : (j : Int) < (N : Int) := by omega
        have hjx : j < xs.length := by rw [HS.out.2.1]; exact hlt
        obtain ⟨bs, os, hao, hent⟩ := HS.out.1.hereV (by rintro rfl; simp at hjx)
        have hatW := hent.at j hjx
        have HJ : Hid (j < N ∧ xs[j]? = some xs[j]) := ⟨hlt, List.getElem?_eq_getElem hjx⟩
        generalize xs[j]'hjx = y at hatW HJ
        obtain ⟨yk, ⟨y0, y1, y2, y3, y4⟩, y5, y6, y7⟩ := y
        subst hao
        have HW : Hid (EntAt w bs (os + j * 9) (yk, ⟨y0, y1, y2, y3, y4⟩, ⟨y5, y6, y7⟩)) := hatW
        clear hent hatW hjx
        go_upto_region 5 with fail
        clear s0 s1 s2
        have hX := HF.out.on (Up.drew wr)
        clear HF
        have hat0 := hX.own.here j (by rw [cp_len xs N j HS.out.2.1 (by omega)]; exact hlt)
        generalize (xs.take j ++ List.replicate (N - j) ent0)[j]'(by rw [cp_len xs N j HS.out.2.1 (by omega)]; exact hlt) = z2 at hat0
        have hr : (fun u => (Box u B #[V l, V f, .slice (some ⟨bs, os, none⟩) N cp] ∧ Box u b2 #[V l, V f, .slice (some ⟨g, 0, none⟩) N N]) ∧ EntAt u bs (os + j * 9) (yk, ⟨y0, y1, y2, y3, y4⟩, ⟨y5, y6, y7⟩)) wr.drew := ⟨⟨hX.a, hX.o⟩, HW.out.up hX.up⟩
        refine wp_region_held_drew (S := fun u => (Box u B #[V l, V f, .slice (some ⟨bs, os, none⟩) N cp] ∧ Box u b2 #[V l, V f, .slice (some ⟨g, 0, none⟩) N N]) ∧ EntAt u bs (os + j * 9) (yk, ⟨y0, y1, y2, y3, y4⟩, ⟨y5, y6, y7⟩)) (by kernel_rfl) hr (fun hs0 => ?_)
        clear hs0 hj hlt
        generalize wr.drew = wd at *
        refine take_to (some 21) (i := 0) (v := .pointer (some ⟨b2, 2, none⟩)) rfl rfl (by kernel_rfl) (by kernel_rfl) (by kernel_rfl) (fun _ _ _ h => h) (Or.inl ⟨by kernel_rfl, by intro u hSu; go_simp⟩) hr ?_
        simp only [Act.put, List.setIfInBounds_toArray, List.set_cons_zero, List.set_cons_succ]
        refine take_to (some 22) (i := 1) (v := .slice (some ⟨g, 0, none⟩) N N) rfl rfl (by kernel_rfl) (by kernel_rfl) (by kernel_rfl) (fun _ _ _ h => h) (Or.inl ⟨by kernel_rfl, by intro u hSu; obtain ⟨s0, s1, s2⟩ := hSu.1.2.c3; go_simp⟩) hr ?_
        simp only [Act.put, List.setIfInBounds_toArray, List.set_cons_zero, List.set_cons_succ]
        refine take_to (some 23) (i := 2) (v := .int .i64 (j : Int)) rfl rfl (by kernel_rfl) (by kernel_rfl) (by kernel_rfl) (fun _ _ _ h => h) (Or.inl ⟨by kernel_rfl, by intro u hSu; go_simp⟩) hr ?_
        simp only [Act.put, List.setIfInBounds_toArray, List.set_cons_zero, List.set_cons_succ]
        refine take_to (some 24) (i := 3) (v := .pointer (some ⟨B, 2, none⟩)) rfl rfl (by kernel_rfl) (by kernel_rfl) (by kernel_rfl) (fun _ _ _ h => h) (Or.inl ⟨by kernel_rfl, by intro u hSu; go_simp⟩) hr ?_
        simp only [Act.put, List.setIfInBounds_toArray, List.set_cons_zero, List.set_cons_succ]
        refine take_to (some 25) (i := 4) (v := .slice (some ⟨bs, os, none⟩) N cp) rfl rfl (by kernel_rfl) (by kernel_rfl) (by kernel_rfl) (fun _ _ _ h => h) (Or.inl ⟨by kernel_rfl, by intro u hSu; obtain ⟨s0, s1, s2⟩ := hSu.1.1.c3; go_simp⟩) hr ?_
        simp only [Act.put, List.setIfInBounds_toArray, List.set_cons_zero, List.set_cons_succ]
        refine take_to (some 26) (i := 5) (v := .int .i64 (j : Int)) rfl rfl (by kernel_rfl) (by kernel_rfl) (by kernel_rfl) (fun _ _ _ h => h) (Or.inl ⟨by kernel_rfl, by intro u hSu; go_simp⟩) hr ?_
        simp only [Act.put, List.setIfInBounds_toArray, List.set_cons_zero, List.set_cons_succ]
        refine take_to (some 27) (i := 6) (v := .pointer (some ⟨bs, os + j * 9, none⟩)) rfl rfl (by kernel_rfl) (by kernel_rfl) (by kernel_rfl) (fun _ _ _ h => h) (Or.inl ⟨by kernel_rfl, by intro u hSu; go_simp⟩) hr ?_
        simp only [Act.put, List.setIfInBounds_toArray, List.set_cons_zero, List.set_cons_succ]
        refine take_to (some 28) (i := 7) (v := .agg #[.string yk, .int .i64 y0, V y1, V y2, V y3, V y4, V y5, V y6, V y7]) rfl rfl (by kernel_rfl) (by kernel_rfl) (by kernel_rfl) (fun _ _ _ h => h) (Or.inl ⟨by kernel_rfl, by intro u hSu; obtain ⟨d0, d1, d2, d3, d4, d5, d6, d7, d8⟩ := hSu.2; go_simp⟩) hr ?_
        simp only [Act.put, List.setIfInBounds_toArray, List.set_cons_zero, List.set_cons_succ]
        refine take_to (some 29) (i := 8) (v := .pointer (some ⟨g, j * 9, none⟩)) rfl rfl (by kernel_rfl) (by kernel_rfl) (by kernel_rfl) (fun _ _ _ h => h) (Or.inl ⟨by kernel_rfl, by intro u hSu; go_simp⟩) hr ?_
        simp only [Act.put, List.setIfInBounds_toArray, List.set_cons_zero, List.set_cons_succ]
        refine wpAnyH_ready (rs := [9]) (by kernel_rfl) (by simp) ?_
        refine AllReadyH.cons rfl (fun K hK => ?_) AllReadyH.nil
        obtain ⟨d0, d1, d2, d3, d4, d5, d6, d7, d8⟩ := hat0
        have gf : ∀ t, wd.frozen? ⟨g, t, none⟩ = false := fun t => hX.own.frozen
        go_simp
        have hX2 := hX.put j (by rw [cp_len xs N j HS.out.2.1 (by have := HJ.out.1; omega)]; exact HJ.out.1) (yk, ⟨y0, y1, y2, y3, y4⟩, ⟨y5, y6, y7⟩)
        rw [cp_set xs N j (yk, ⟨y0, y1, y2, y3, y4⟩, ⟨y5, y6, y7⟩) HS.out.2.1 HJ.out.1 HJ.out.2] at hX2
        obtain ⟨wz, hwz⟩ : ∃ wz, wd.setCells g (j * 9) (EC (yk, ⟨y0, y1, y2, y3, y4⟩, ⟨y5, y6, y7⟩)) = wz := ⟨_, rfl⟩
        rw [hwz] at hX2
        generalize hq : World.setCell _ _ _ = wq
        obtain rfl : wq = wz := hq.symm.trans hwz
        refine hK.out _ _ ⟨⟨hX2.a, hX2.o⟩, HW.out.up hX2.up⟩ (fun _ => ?_)
        clear hK K hq hwz d0 d1 d2 d3 d4 d5 d6 d7 d8 gf hX hr
        refine wpAnyH_done (by kernel_rfl) ?_ _
        go_wp2
        go_roundg (N - (j + 1))
        case measure => have := HJ.out.1; omega
        case rel => exact ⟨j + 1, HJ.out.1, rfl, by go_num, hX2⟩
      · obtain rfl : j = N := by omega
        have hlt' : ¬ (j : Int) < (j : Int) := by omega
        have hC := HF.out
        rw [List.take_of_length_le (by rw [HS.out.2.1]; exact Nat.le_refl _), Nat.sub_self, List.replicate_zero, List.append_nil] at hC
        obtain ⟨o0, o1, o2⟩ := hC.o.c3
        obtain ⟨z0, z1, z2⟩ := hC.z.c3
        have zf := hC.z.frozen
        have hB := hC.e
        obtain ⟨wf, hwf, bf, uf, ow⟩ : ∃ wf, wf = ((wr.setCell ⟨B + 1, 0, none⟩ (V l)).setCell ⟨B + 1, 1, none⟩ (V f)).setCell ⟨B + 1, 2, none⟩ (.slice (some ⟨g, 0, none⟩) j j) ∧ Box wf (B + 1) #[V l, V f, .slice (some ⟨g, 0, none⟩) j j] ∧ Up w wf ∧ OwnE wf B (.slice (some ⟨g, 0, none⟩) j j) xs := by
          have hset : Touch wr (((wr.setCell ⟨B + 1, 0, none⟩ (V l)).setCell ⟨B + 1, 1, none⟩ (V f)).setCell ⟨B + 1, 2, none⟩ (.slice (some ⟨g, 0, none⟩) j j)) [B + 1] := (((Touch.refl _ [B + 1]).setCell (.inl (by simp)) 0 _).setCell (.inl (by simp)) 1 _).setCell (.inl (by simp)) 2 _
          exact ⟨_, rfl, hC.z.set3, ((Touch.of_up hC.up [B + 1]).trans hset (fun k hk => .inl hk)).up (fun k hk => by simp only [List.mem_singleton] at hk; omega), hC.own.kept hset (fun k hk => by have := hC.n2; simp [ob, Value.ownBlock] at hk; subst hk; simp only [List.mem_singleton]; omega)⟩
        clear HF hC hlt hj
        go_wp2
        generalize hq : World.setCell _ _ _ = wq
        obtain rfl : wq = wf := hq.symm.trans hwf.symm
        clear hq hwf o0 o1 o2 z0 z1 z2 zf s0 s1 s2
        obtain ⟨c0, c1, c2⟩ := bf.c3
        exact bodyPost_ret (v := .agg #[V l, V f, .slice (some ⟨g, 0, none⟩) j j]) (by simp [results, Tryd.results30, go_sem, c0, c1, c2]) rfl ⟨_, rfl, ow, uf⟩
end Go.Proofs.YtdddfapelencoaaDoor

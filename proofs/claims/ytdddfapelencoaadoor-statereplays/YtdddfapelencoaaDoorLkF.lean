/- Merged: StLkV, StLkG. -/
import Derived.Test.YtdddfapelencoaaDoorLkE
import Derived.Test.YtdddfapelencoaaDoorLrP
import Derived.Test.YtdddfapelencoaaDoorHeldTo
set_option linter.unusedVariables false
set_option linter.unusedSimpArgs false
namespace Go.Proofs.YtdddfapelencoaaDoor
open Go Go.RowKit

/-- What the comparison of two neighbours reads. -/
structure LkAt (B b o j N cap K : Nat) (L S : ByteArray) (u : World) : Prop where
  s : u.cell? ⟨B, 2, none⟩ = some (.slice (some ⟨b, o, none⟩) N cap)
  l : u.cell? ⟨b, o + j * 9, none⟩ = some (.string L)
  k : u.cell? ⟨K, 0, none⟩ = some (.string S)
theorem LkAt.up {B b o j N cap K : Nat} {L S : ByteArray} {u u' : World} (h : LkAt B b o j N cap K L S u) (k : Up u u') : LkAt B b o j N cap K L S u' := by
  have c : ∀ a v, u.cell? a = some v → u'.cell? a = some v := fun a v e => (k.cell (World.block_lt_of_cell? u _ e)).trans e
  exact ⟨c _ _ h.s, c _ _ h.l, c _ _ h.k⟩
theorem kl_empty (a S : ByteArray) (h : S.size = 0) : kl a S = false := by
  rw [kl_not]
  have : S.data.toList = [] := List.eq_nil_of_length_eq_zero h
  rw [this]
  exact List.not_lt_nil _
/-- The key ahead of the place i. -/
def lastK (xs : List Ent) : Nat → ByteArray
  | 0 => noKey
  | j + 1 => ((xs[j]?).map (·.1)).getD noKey

set_option maxRecDepth 20000 in
set_option maxHeartbeats 3200000 in
theorem rValid_loop (ao : Option Addr) (N cap l f : Nat) (xs : List Ent) (w : World) (q : Bool) (hN : xs.length = N) (hl : l ≤ 4611686018427387904) (hl2 : N ≤ 4096) (hq : okFrom noKey xs = q) (h : SlE w (.slice ao N cap) xs) (hxs : ∀ x ∈ xs, x.1.size ≤ 9223372036854775807) :
    Calls Tryd.prog 7 #[.agg #[V l, V f, .slice ao N cap]] w fun e w' => e = .returned (.bool q) ∧ Up w w' := by
  have HN : Hid (xs.length = N ∧ N ≤ 4096) := ⟨hN, hl2⟩
  have HX : Hid (SlE w (.slice ao N cap) xs) := h
  have HQ : Hid (okFrom noKey xs = q) := hq
  have HS : Hid (∀ x ∈ xs, x.1.size ≤ 9223372036854775807) := hxs
  have g1 : (N : Int) ≤ 4096 := by omega
  have g2 : ¬ (4611686018427387904 : Nat) < l := by omega
  have g3 : ¬ (4611686018427387904 : Int) < (l : Int) := by omega
  have b0 : Box (w.alloc (.cells #[V l, V f, .slice ao N cap] 27)) w.heap.size #[V l, V f, .slice ao N cap] := Box.new _ _ _
  have u0 : Up w (w.alloc (.cells #[V l, V f, .slice ao N cap] 27)) := Up.alloc _ _
  clear hN h hxs hq hl hl2
  go_enter Tryd.func7, Tryd.ntmps7
  go_upto_region 1 with fail
  generalize w.alloc (.cells #[V l, V f, .slice ao N cap] 27) = w0 at *
  generalize w.heap.size = B at *
  have H0 : Hid (Up w w0 ∧ Box w0 B #[V l, V f, .slice ao N cap]) := ⟨u0, b0⟩
  obtain ⟨s0, s1, s2⟩ := b0.c3
  clear b0 u0
  go_wp2
  clear s0 s1 s2 g2 g3
  go_loopg [3] N (fun g i wr => ∃ j : Nat, j ≤ N ∧ g = N - j ∧ i = .int .i64 j ∧ Hid ((Up w wr ∧ Box wr B #[V l, V f, .slice ao N cap]) ∧ okFrom noKey xs = okFrom (lastK xs j) (xs.drop j)))
  case atStart => exact ⟨0, by omega, rfl, rfl, H0.out, rfl⟩
  case round =>
    obtain ⟨i, hi, rfl, rfl, HR⟩ := hrel
    obtain ⟨s0, s1, s2⟩ := HR.out.1.2.c3
    by_cases hlt : i < N
    · have hm : i < xs.length := by rw [HN.out.1]; exact hlt
      obtain ⟨b, o, rfl, ha⟩ := (HX.out.up HR.out.1.1).hereV (by rintro rfl; simp at hm)
      obtain ⟨c0, c1, c2, c3, c4, c5, c6, c7, c8⟩ := ha.at i hm
      have H2 : Hid (q = okFrom (lastK xs i) (xs[i] :: xs.drop (i + 1))) := by
        show _ = _
        rw [← HQ.out, HR.out.2, List.drop_eq_getElem_cons hm]
      have H3 : Hid (lastK xs (i + 1) = xs[i].1) := by
        show _ = _
        simp [lastK, List.getElem?_eq_getElem hm]
      have HD : Hid (N - (i + 1) < N - i ∧ i + 1 ≤ N) := ⟨by omega, hlt⟩
      have HSS : Hid (xs[i].1.size ≤ 9223372036854775807) := HS.out _ (List.getElem_mem hm)
      have HPV : Hid (i = 0 ∨ ∃ j, i = j + 1 ∧ ∃ hj : j < xs.length, lastK xs i = xs[j].1 ∧ EntAt wr b (o + j * 9) xs[j] ∧ xs[j].1.size ≤ 9223372036854775807) := by
        cases i with
        | zero => exact .inl rfl
        | succ j => exact .inr ⟨j, rfl, by omega, by simp [lastK, List.getElem?_eq_getElem (show j < xs.length by omega)], ha.at j (by omega), HS.out _ (List.getElem_mem _)⟩
      have HI1 : Hid (okFrom noKey xs = q) := HQ.out
      generalize xs[i] = x at c0 c1 c2 c3 c4 c5 c6 c7 c8 H2 H3 HSS
      have hc := fun u => rfits_call x.2.1 x.2.2 u
      obtain ⟨S, ⟨pk, pg, ps, pq, pp⟩, lt, li, lc⟩ := x
      simp only at c0 c1 c2 c3 c4 c5 c6 c7 c8 hc H3 HSS
      obtain ⟨z, hz⟩ : ∃ z, pFits ⟨pk, pg, ps, pq, pp⟩ ⟨lt, li, lc⟩ = z := ⟨_, rfl⟩
      have HZ : Hid (pFits ⟨pk, pg, ps, pq, pp⟩ ⟨lt, li, lc⟩ = z) := hz
      rw [hz] at hc
      clear hz ha hm hi
      have B9 : Box (wr.alloc (.cells #[.string S, .int .i64 pk, V pg, V ps, V pq, V pp, V lt, V li, V lc] 58)) wr.heap.size #[.string S, .int .i64 pk, V pg, V ps, V pq, V pp, V lt, V li, V lc] := Box.new _ _ _
      have U9 : Up wr (wr.alloc (.cells #[.string S, .int .i64 pk, V pg, V ps, V pq, V pp, V lt, V li, V lc] 58)) := Up.alloc _ _
      go_upto_region 7 with fail
      generalize wr.alloc (.cells #[.string S, .int .i64 pk, V pg, V ps, V pq, V pp, V lt, V li, V lc] 58) = W9 at B9 U9 ⊢
      generalize wr.heap.size = K at *
      obtain ⟨d0, d1, d2, d3, d4, d5, d6, d7, d8⟩ := B9.c9
      have HU9 : Hid (Up w W9 ∧ Up wr W9) := ⟨HR.out.1.1.trans U9, U9⟩
      have HB9 : Hid (Box W9 K #[.string S, .int .i64 pk, V pg, V ps, V pq, V pp, V lt, V li, V lc] ∧ Box W9 B #[V l, V f, .slice (some ⟨b, o, none⟩) N cap]) := ⟨B9, HR.out.1.2.up U9⟩
      clear c0 c1 c2 c3 c4 c5 c6 c7 c8 U9 B9 s0 s1 s2
      by_cases hz1 : (S.size : Int) < 1
      · have hfin : q = false := by rw [H2.out]; simp [okFrom, kl_empty _ S (by omega)]
        subst hfin
        clear hc
        go_wp2
        go_ret
        exact ⟨rfl, HU9.out.1⟩
      by_cases h64 : (64 : Int) < (S.size : Int)
      · have hfin : q = false := by rw [H2.out]; simp [okFrom]; omega
        subst hfin
        clear hc
        go_wp2
        go_ret
        exact ⟨rfl, HU9.out.1⟩
      cases z with
      | false =>
        have hfin : q = false := by rw [H2.out]; simp [okFrom, HZ.out]
        subst hfin
        go_wp2_with fail
        refine (hc _).mono ?_
        rintro e w1 ⟨rfl, u1⟩
        go_wp2
        go_ret
        exact ⟨rfl, HU9.out.1.trans u1⟩
      | true =>
        have HSZ : Hid (1 ≤ S.size ∧ S.size ≤ 64) := ⟨by omega, by omega⟩
        go_wp2_with fail
        refine (hc _).mono ?_
        rintro e w1 ⟨rfl, u1⟩
        have UU : Hid (Up w w1 ∧ Up wr w1) := ⟨HU9.out.1.trans u1, HU9.out.2.trans u1⟩
        have HB1 : Hid (Box w1 K #[.string S, .int .i64 pk, V pg, V ps, V pq, V pp, V lt, V li, V lc] ∧ Box w1 B #[V l, V f, .slice (some ⟨b, o, none⟩) N cap]) := ⟨HB9.out.1.up u1, HB9.out.2.up u1⟩
        clear hc d0 d1 d2 d3 d4 d5 d6 d7 d8 u1 HB9 HU9 hz1 h64
        go_upto_region 9 with fail
        go_cut [58] (fun x wx => ∃ r : Bool, x = .bool r ∧ Hid (r = !(kl (lastK xs i) S)) ∧ Hid (Up w1 wx))
        case first =>
          rcases HPV.out with rfl | ⟨j, rfl, hj, hlk, hat, hsz⟩
          · obtain ⟨s0, s1, s2⟩ := HB1.out.2.c3
            have hk0 : kl (lastK xs 0) S = true := (kl_no S).2 HSZ.out.1
            go_quiet (fail)
            go_wp2_with fail
            go_meet
            case rel => exact ⟨false, rfl, by rw [hk0]; rfl, up_drewN _ _⟩
          · have hs : LkAt B b o j N cap K xs[j].1 S w1 := ⟨HB1.out.2.cell 2, (hat.upV UU.out.2).1, HB1.out.1.cell 0⟩
            generalize xs[j].1 = L at *
            have HBF : Hid (∀ u, Calls Tryd.prog 24 #[.string L, .string S] u fun e w' => e = .returned (.bool (kl L S)) ∧ Up u w') := fun u => rBefore_any L S u hsz HSS.out
            have k1 : (j : Int) < (N : Int) := by omega
            have k2 : (j : Int) ≤ 4096 := by omega
            have k6 : IntKind.i64.wrap (j : Int) = (j : Int) := by have h6 := IntKind.wrap_i64 (j : Int); omega
            have HLK : Hid (lastK xs (j + 1) = L) := hlk
            clear hat hsz hlk hj
            replace hs := hs.up (Up.drew w1)
            refine wp_region_held_drew (S := fun u => LkAt B b o j N cap K L S u) (by kernel_rfl) hs (fun hs0 => ?_)
            clear hs0
            have UD : Up w1 w1.drew := Up.drew w1
            generalize w1.drew = wd at *
            refine take_to (some 44) (i := 0) (v := .int .i64 ((j : Int) + 1)) rfl rfl (by kernel_rfl) (by kernel_rfl) (by kernel_rfl) (fun _ _ _ h => h) (Or.inl ⟨by kernel_rfl, by intro u hSu; go_simp⟩) hs ?_
            simp only [Act.put, List.setIfInBounds_toArray, List.set_cons_zero, List.set_cons_succ]
            refine take_to (some 45) (i := 1) (v := .bool true) rfl rfl (by kernel_rfl) (by kernel_rfl) (by kernel_rfl) (fun _ _ _ h => h) (Or.inl ⟨by kernel_rfl, by intro u hSu; go_simp⟩) hs ?_
            simp only [Act.put, List.setIfInBounds_toArray, List.set_cons_zero, List.set_cons_succ]
            refine take_to (some 46) (i := 2) (v := .bool true) rfl rfl (by kernel_rfl) (by kernel_rfl) (by kernel_rfl) (fun _ _ _ h => h) (Or.inl ⟨by kernel_rfl, by intro u hSu; go_simp⟩) hs ?_
            simp only [Act.put, List.setIfInBounds_toArray, List.set_cons_zero, List.set_cons_succ]
            refine take_to (some 47) (i := 3) (v := .pointer (some ⟨B, 2, none⟩)) rfl rfl (by kernel_rfl) (by kernel_rfl) (by kernel_rfl) (fun _ _ _ h => h) (Or.inl ⟨by kernel_rfl, by intro u hSu; go_simp⟩) hs ?_
            simp only [Act.put, List.setIfInBounds_toArray, List.set_cons_zero, List.set_cons_succ]
            refine take_to (some 48) (i := 4) (v := .slice (some ⟨b, o, none⟩) N cap) rfl rfl (by kernel_rfl) (by kernel_rfl) (by kernel_rfl) (fun _ _ _ h => h) (Or.inl ⟨by kernel_rfl, by intro u hSu; have q := hSu.s; go_simp⟩) hs ?_
            simp only [Act.put, List.setIfInBounds_toArray, List.set_cons_zero, List.set_cons_succ]
            refine take_to (some 49) (i := 5) (v := .int .i64 ((j : Int) + 1)) rfl rfl (by kernel_rfl) (by kernel_rfl) (by kernel_rfl) (fun _ _ _ h => h) (Or.inl ⟨by kernel_rfl, by intro u hSu; go_simp⟩) hs ?_
            simp only [Act.put, List.setIfInBounds_toArray, List.set_cons_zero, List.set_cons_succ]
            refine take_to (some 50) (i := 6) (v := .int .i64 (j : Int)) rfl rfl (by kernel_rfl) (by kernel_rfl) (by kernel_rfl) (fun _ _ _ h => h) (Or.inl ⟨by kernel_rfl, by intro u hSu; have q := k6; go_simp⟩) hs ?_
            simp only [Act.put, List.setIfInBounds_toArray, List.set_cons_zero, List.set_cons_succ]
            refine take_to (some 51) (i := 7) (v := .pointer (some ⟨b, o + j * 9, none⟩)) rfl rfl (by kernel_rfl) (by kernel_rfl) (by kernel_rfl) (fun _ _ _ h => h) (Or.inl ⟨by kernel_rfl, by intro u hSu; go_simp⟩) hs ?_
            simp only [Act.put, List.setIfInBounds_toArray, List.set_cons_zero, List.set_cons_succ]
            refine take_to (some 52) (i := 8) (v := .pointer (some ⟨b, o + j * 9, none⟩)) rfl rfl (by kernel_rfl) (by kernel_rfl) (by kernel_rfl) (fun _ _ _ h => h) (Or.inl ⟨by kernel_rfl, by intro u hSu; go_simp⟩) hs ?_
            simp only [Act.put, List.setIfInBounds_toArray, List.set_cons_zero, List.set_cons_succ]
            refine take_to (some 53) (i := 9) (v := .string L) rfl rfl (by kernel_rfl) (by kernel_rfl) (by kernel_rfl) (fun _ _ _ h => h) (Or.inl ⟨by kernel_rfl, by intro u hSu; have q := hSu.l; go_simp⟩) hs ?_
            simp only [Act.put, List.setIfInBounds_toArray, List.set_cons_zero, List.set_cons_succ]
            refine take_to (some 54) (i := 10) (v := .pointer (some ⟨K, 0, none⟩)) rfl rfl (by kernel_rfl) (by kernel_rfl) (by kernel_rfl) (fun _ _ _ h => h) (Or.inl ⟨by kernel_rfl, by intro u hSu; go_simp⟩) hs ?_
            simp only [Act.put, List.setIfInBounds_toArray, List.set_cons_zero, List.set_cons_succ]
            refine take_to (some 55) (i := 11) (v := .string S) rfl rfl (by kernel_rfl) (by kernel_rfl) (by kernel_rfl) (fun _ _ _ h => h) (Or.inl ⟨by kernel_rfl, by intro u hSu; have q := hSu.k; go_simp⟩) hs ?_
            simp only [Act.put, List.setIfInBounds_toArray, List.set_cons_zero, List.set_cons_succ]
            refine wpAnyH_ready (rs := [12]) (by kernel_rfl) (by simp) ?_
            refine AllReadyH.cons rfl (fun K hK => ?_) AllReadyH.nil
            go_simp
            refine (HBF.out _).mono ?_
            rintro e w9 ⟨rfl, u9⟩
            have U9 : Up w1 w9 := UD.trans u9
            replace hs := hs.up u9
            refine hK.out _ _ hs (fun _ => ?_)
            clear hK K
            refine take_to (some 57) (i := 13) (v := .bool (!(kl L S))) rfl rfl (by kernel_rfl) (by kernel_rfl) (by kernel_rfl) (fun _ _ _ h => h) (Or.inl ⟨by kernel_rfl, by intro u hSu; go_simp⟩) hs ?_
            simp only [Act.put, List.setIfInBounds_toArray, List.set_cons_zero, List.set_cons_succ]
            refine take_to (some 58) (i := 14) (v := .bool (!(kl L S))) rfl rfl (by kernel_rfl) (by kernel_rfl) (by kernel_rfl) (fun _ _ _ h => h) (Or.inl ⟨by kernel_rfl, by intro u hSu; go_simp⟩) hs ?_
            simp only [Act.put, List.setIfInBounds_toArray, List.set_cons_zero, List.set_cons_succ]
            refine wpAnyH_done (by kernel_rfl) ?_ _
            go_wp2_with fail
            go_meet
            case rel => exact ⟨_, rfl, (by show _ = _; rw [HLK.out]), U9⟩
        case rest =>
          obtain ⟨r, rfl, HRK, HUX⟩ := hcut
          cases r with
          | true =>
            have hfin : q = false := by
              have := HRK.out
              rw [H2.out]
              have hk : kl (lastK xs i) S = false := by simpa using this.symm
              simp [okFrom, hk]
            subst hfin
            go_wp2
            go_ret
            exact ⟨rfl, UU.out.1.trans HUX.out⟩
          | false =>
            have hk : Hid (kl (lastK xs i) S = true) := by
              have := HRK.out
              show _ = _
              simpa using this.symm
            go_wp2
            go_roundg (N - (i + 1))
            case measure => exact HD.out.1
            case rel => exact ⟨i + 1, HD.out.2, rfl, by go_num, ⟨UU.out.1.trans HUX.out, HB1.out.2.up HUX.out⟩, by
              rw [HQ.out, H2.out, H3.out]
              simp only [okFrom, hk.out, HZ.out, Bool.true_and, Bool.and_true]
              rw [decide_eq_true HSZ.out.2, Bool.true_and]⟩
    · obtain rfl : i = N := by omega
      have hfin : q = true := by rw [← HQ.out, HR.out.2, List.drop_of_length_le (by have := HN.out; omega)]; rfl
      subst hfin
      have HU : Hid (Up w wr) := HR.out.1.1
      clear HR HQ
      go_wp2
      go_ret
      exact ⟨rfl, HU.out⟩
end Go.Proofs.YtdddfapelencoaaDoor

set_option linter.unusedVariables false
set_option linter.unusedSimpArgs false
namespace Go.Proofs.YtdddfapelencoaaDoor
open Go Go.RowKit

theorem rValid_any (v : Value) (l f : Nat) (xs : List Ent) (w : World) (h : SlE w v xs) (hl : xs.length ≤ 4611686018427387903) (hxs : ∀ x ∈ xs, x.1.size ≤ 9223372036854775807) :
    Calls Tryd.prog 7 #[.agg #[V l, V f, v]] w fun e w' => e = .returned (.bool (okS ⟨l, f, xs⟩)) ∧ Up w w' := by
  have h0 := h
  obtain ⟨ao, cap, rfl, hc, hn, hx⟩ := h
  obtain ⟨N, hN⟩ : ∃ N, xs.length = N := ⟨_, rfl⟩
  by_cases h1 : 4611686018427387904 < l
  · have e : okS ⟨l, f, xs⟩ = false := by unfold okS; rw [decide_eq_false (show ¬ l ≤ 4611686018427387904 by omega)]; rfl
    rw [e, hN]
    have h1' : (4611686018427387904 : Int) < (l : Int) := by omega
    have h1'' : (4611686018427387904 : Nat) < l := h1
    have b0 : Box (w.alloc (.cells #[V l, V f, .slice ao N cap] 27)) w.heap.size #[V l, V f, .slice ao N cap] := Box.new _ _ _
    have u0 : Up w (w.alloc (.cells #[V l, V f, .slice ao N cap] 27)) := Up.alloc _ _
    clear hx hn hc hN e h1 h0 hxs hl
    go_enter Tryd.func7, Tryd.ntmps7
    go_upto_region 1 with fail
    generalize w.alloc (.cells #[V l, V f, .slice ao N cap] 27) = w0 at *
    obtain ⟨s0, s1, s2⟩ := b0.c3
    go_wp2
    go_ret
    exact ⟨rfl, u0⟩
  · by_cases h2 : xs.length ≤ 4096
    · have e : okS ⟨l, f, xs⟩ = okFrom noKey xs := by unfold okS; rw [decide_eq_true (show l ≤ 4611686018427387904 by omega), decide_eq_true h2]; rfl
      rw [e, hN]
      rw [hN] at h0
      exact rValid_loop ao N cap l f xs w _ hN (by omega) (by omega) rfl h0 hxs
    · have e : okS ⟨l, f, xs⟩ = false := by unfold okS; rw [decide_eq_false h2]; simp
      rw [e, hN]
      rw [hN] at h2 hl
      have h1' : ¬ (4611686018427387904 : Int) < (l : Int) := by omega
      have h1'' : ¬ (4611686018427387904 : Nat) < l := h1
      have h2' : (4096 : Int) < (N : Int) := by omega
      have hl3 : (N : Int) ≤ 4611686018427387903 := by omega
      have b0 : Box (w.alloc (.cells #[V l, V f, .slice ao N cap] 27)) w.heap.size #[V l, V f, .slice ao N cap] := Box.new _ _ _
      have u0 : Up w (w.alloc (.cells #[V l, V f, .slice ao N cap] 27)) := Up.alloc _ _
      clear hx hn hc hN e h1 h2 hl h0 hxs
      go_enter Tryd.func7, Tryd.ntmps7
      go_upto_region 1 with fail
      generalize w.alloc (.cells #[V l, V f, .slice ao N cap] 27) = w0 at *
      obtain ⟨s0, s1, s2⟩ := b0.c3
      go_wp2
      go_ret
      exact ⟨rfl, u0⟩
end Go.Proofs.YtdddfapelencoaaDoor

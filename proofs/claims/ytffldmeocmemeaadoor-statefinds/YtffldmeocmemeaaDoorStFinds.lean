/- state: the law on Find. Own work. -/
import Derived.Test.YtffldmeocmemeaaDoorMsD
import Derived.Deep.DeepCutAuto
set_option linter.unusedVariables false
set_option linter.unusedSimpArgs false
namespace Go.Proofs.YtffldmeocmemeaaDoor
open Go Go.RowKit

theorem isSome_any (k : ByteArray) (xs : List Ent) : (getL k xs).isSome = xs.any fun x => decide (x.1 = k) := by
  unfold getL
  rw [Option.isSome_map, Bool.eq_iff_iff, List.find?_isSome]
  simp only [decide_eq_true_eq, List.any_eq_true, Bool.and_eq_true, Bool.not_eq_true']
  constructor
  · rintro ⟨x, hx, h1, h2⟩
    exact ⟨x, hx, kl_tri h1 h2⟩
  · rintro ⟨x, hx, rfl⟩
    exact ⟨x, hx, kl_irr _, kl_irr _⟩
theorem pl_snoc (k : ByteArray) (xs : List Ent) (x : Ent) : pl k (xs ++ [x]) = pl k xs + (if kl x.1 k = true then 1 else 0) := by
  unfold pl
  rw [lo_app, List.length_append]
  congr 1
  unfold lo
  cases h : kl x.1 k <;> simp [h]
theorem srt_snoc {xs : List Ent} {x : Ent} (h : Srt xs) (hx : ∀ y, xs.getLast? = some y → kl y.1 x.1 = true) : Srt (xs ++ [x]) := by
  unfold Srt at *
  rw [List.pairwise_append]
  refine ⟨h, by simp, fun y hy z hz => ?_⟩
  obtain rfl : z = x := by simpa using hz
  have hne : xs ≠ [] := by rintro rfl; cases hy
  have hl := hx _ (List.getLast?_eq_some_getLast hne)
  obtain ⟨i, hi, rfl⟩ := List.getElem_of_mem hy
  rw [List.getLast_eq_getElem] at hl
  by_cases e : i = xs.length - 1
  · subst e; exact hl
  · exact kl_trans (List.pairwise_iff_getElem.1 h i (xs.length - 1) hi (by omega) (by omega)) hl

set_option maxRecDepth 20000 in
set_option maxHeartbeats 3200000 in
theorem StateFinds_any (v : Value) (l f : Nat) (xs : List Ent) (k : ByteArray) (w : World) (ad : Nat → Addr) (hk : ErrSet stErrs errTxt w ad) (h : SlE w v xs) (hl : xs.length ≤ 140737488355328) :
    Calls Tryd.prog 8 #[.agg #[V l, V f, v], .string k] w fun e w' => e = .returned (.bool true) ∧ Up w w' := by
  have HL : Hid (∀ u, Up w u → Calls Tryd.prog 10 #[] u fun e w' => e = .returned (.bool true) ∧ Up u w') := fun u uu => lives_any u ad (hk.up uu)
  have HF : Hid (∀ u, Up w u → Calls Tryd.prog 13 #[.agg #[V l, V f, v], .string k] u fun e w' => ∃ (i : Nat) (o : Bool), e = .returned (.tuple #[.int .i64 (i : Int), .bool o]) ∧ (i ≤ xs.length ∧ (Srt xs → i = pl k xs ∧ o = (getL k xs).isSome)) ∧ Up u w') := fun u uu => Find_any v xs l f k u (h.up uu) (by omega)
  obtain ⟨ao, cap, rfl, hc, hn, hx⟩ := h
  obtain ⟨N, hN⟩ : ∃ N, xs.length = N := ⟨_, rfl⟩
  have HN : Hid (xs.length = N) := hN
  have HX : Hid (xs ≠ [] → ∃ b o, ao = some ⟨b, o, none⟩ ∧ EntsAt w b o xs) := hx
  rw [hN] at HF hl ⊢
  have hl1 : (N : Int) ≤ 140737488355328 := by omega
  clear hx hn hc hN hk
  have b0 : Box (w.alloc (.cells #[V l, V f, .slice ao N cap] 27)) w.heap.size #[V l, V f, .slice ao N cap] := Box.new _ _ _
  have u0 : Up w (w.alloc (.cells #[V l, V f, .slice ao N cap] 27)) := Up.alloc _ _
  go_enter Tryd.func8, Tryd.ntmps8
  go_upto_region 1 with fail
  generalize w.alloc (.cells #[V l, V f, .slice ao N cap] 27) = w0 at *
  generalize w.heap.size = B at *
  go_wp2_with fail
  refine (HL.out _ u0).mono ?_
  rintro e w1 ⟨rfl, u1⟩
  have HU1 : Hid (Up w w1) := u0.trans u1
  have HB1 : Hid (Box w1 B #[V l, V f, .slice ao N cap]) := b0.up u1
  clear b0 u0 u1 HL
  go_wp2
  go_loopg [5, 6, 7] N (fun g s5 s6 s7 wr => ∃ (i : Nat) (t : Bool), i ≤ N ∧ g = N - i ∧ s5 = .int .i64 (pl k (xs.take i) : Nat) ∧ s6 = .bool t ∧ s7 = .int .i64 i ∧ Hid (Up w wr ∧ Box wr B #[V l, V f, .slice ao N cap]) ∧ Hid (Srt (xs.take i) ∧ t = (xs.take i).any fun x => decide (x.1 = k)))
  case atStart => exact ⟨0, false, by omega, rfl, rfl, rfl, rfl, ⟨HU1.out, HB1.out⟩, by simp [Srt], by simp⟩
  case round =>
    obtain ⟨i, t, hi, rfl, rfl, rfl, rfl, HW, HI⟩ := hrel
    obtain ⟨s0, s1, s2⟩ := HW.out.2.c3
    by_cases hlt : i < N
    · have hm : i < xs.length := by rw [HN.out]; exact hlt
      obtain ⟨b, o, rfl, ha⟩ := HX.out (by rintro rfl; simp at hm)
      have ha' := ha.block fun hl => HW.out.1.block b hl
      have c0 := (ha'.at i hm).1
      have htk := List.take_succ_eq_append_getElem hm
      have HP : Hid (pl k (xs.take (i + 1)) = pl k (xs.take i) + (if kl xs[i].1 k = true then 1 else 0)) := by show _ = _; rw [htk, pl_snoc]
      have HT : Hid ((∀ y, (xs.take i).getLast? = some y → kl y.1 xs[i].1 = true) → Srt (xs.take (i + 1))) := fun hy => by rw [htk]; exact srt_snoc HI.out.1 hy
      have HA : Hid (∀ o, o = (t || decide (xs[i].1 = k)) → o = (xs.take (i + 1)).any fun x => decide (x.1 = k)) := by
        rintro o rfl
        rw [htk, List.any_append, HI.out.2]
        simp
      have hpb : pl k (xs.take i) ≤ N := by have := pl_le k (xs.take i); rw [List.length_take] at this; omega
      obtain ⟨S, hS⟩ : ∃ S, xs[i].1 = S := ⟨_, rfl⟩
      rw [hS] at c0 HP HT HA
      have HD : Hid (N - (i + 1) < N - i ∧ i + 1 ≤ N) := ⟨by omega, hlt⟩
      have hprev : i = 0 ∨ ∃ j y, i = j + 1 ∧ (xs.take i).getLast? = some y ∧ wr.cell? ⟨b, o + j * 9, none⟩ = some (.string y.1) := by
        cases i with
        | zero => exact .inl rfl
        | succ j =>
          have hj : j < xs.length := by omega
          refine .inr ⟨j, xs[j], rfl, ?_, (ha'.at j hj).1⟩
          rw [List.take_succ_eq_append_getElem hj, List.getLast?_append]
          simp
      clear ha ha' hm htk hS hi
      generalize hp : pl k (xs.take i) = p at *
      have hp1 : (p : Int) ≤ 140737488355328 := by omega
      have hq : ∃ q : Bool, (q = false → ∀ y, (xs.take i).getLast? = some y → kl y.1 S = true) ∧ ((i = 0 ∧ q = false) ∨ ∃ (j : Nat) (y : Ent), i = j + 1 ∧ q = !(kl y.1 S) ∧ wr.cell? ⟨b, o + j * 9, none⟩ = some (.string y.1)) := by
        rcases hprev with rfl | ⟨j, y, rfl, hy, hc⟩
        · exact ⟨false, fun _ y hy => by simp at hy, .inl ⟨rfl, rfl⟩⟩
        · exact ⟨!(kl y.1 S), fun e y' hy' => by rw [hy] at hy'; obtain rfl := Option.some.inj hy'; simpa using e, .inr ⟨j, y, rfl, rfl, hc⟩⟩
      obtain ⟨q, hq1, hq2⟩ := hq
      have HQ : Hid (q = false → Srt (xs.take (i + 1))) := fun e => HT.out (hq1 e)
      clear hprev hq1 HT HI
      go_upto_region 8 with fail
      go_cut [36] (fun x wx => x = .bool q ∧ Hid (∃ n, wx = wr.drewN n))
      case first =>
        rcases hq2 with ⟨rfl, rfl⟩ | ⟨j, y, hij, hq3, hc⟩
        · go_quiet (fail)
          go_wp2_with fail
          go_meet
          case rel => exact ⟨rfl, _, rfl⟩
        · obtain ⟨Y, ZZ⟩ := y
          simp only at hq3 hc
          have e1 : (i : Int) - 1 = (j : Int) := by omega
          have e2 : decide (0 < i) = true := decide_eq_true (by omega)
          have e3 : (j : Int) < (N : Int) := by omega
          have e4 : (0 : Int) < (i : Int) := by omega
          clear hij
          cases hY : kl Y S with
          | true =>
            obtain rfl : q = false := by rw [hq3, hY]; rfl
            clear hq3
            go_quiet (fail)
            go_wp2_with fail
            go_meet
            case rel => exact ⟨rfl, _, rfl⟩
          | false =>
            obtain rfl : q = true := by rw [hq3, hY]; rfl
            clear hq3
            go_quiet (fail)
            go_wp2_with fail
            go_meet
            case rel => exact ⟨rfl, _, rfl⟩
      case rest =>
        obtain ⟨rfl, hwc⟩ := hcut
        obtain ⟨nn, hwn⟩ := hwc.out
        have uw : Up wr wc := by rw [hwn]; exact up_drewN _ _
        have HW2 : Hid (Up w wc ∧ Box wc B #[V l, V f, .slice (some ⟨b, o, none⟩) N cap]) := ⟨HW.out.1.trans uw, HW.out.2.up uw⟩
        have c1 : wc.cell? ⟨b, o + i * 9, none⟩ = some (.string S) := (uw.cell (World.block_lt_of_cell? wr _ c0)).trans c0
        clear hwn hwc uw c0 hq2 s0 s1 s2 HW
        obtain ⟨s0, s1, s2⟩ := HW2.out.2.c3
        cases q with
        | true =>
          go_wp2
          go_ret
          exact ⟨rfl, HW2.out.1⟩
        | false =>
          have HSR : Hid (Srt (xs.take (i + 1))) := HQ.out rfl
          clear HQ
          by_cases hSk : S = k
          · subst hSk
            have hkl : kl S S = false := kl_irr S
            have HP2 : Hid (pl S (xs.take (i + 1)) = p) := by show _ = _; rw [HP.out, if_neg (by rw [hkl]; simp)]; rfl
            have HA2 : Hid (true = (xs.take (i + 1)).any fun x => decide (x.1 = S)) := HA.out _ (by simp)
            cases t
            all_goals
              go_wp2
              go_roundg (N - (i + 1))
              case measure => exact HD.out.1
              case rel => exact ⟨i + 1, true, HD.out.2, rfl, by rw [HP2.out], rfl, by go_num, HW2.out, HSR.out, HA2.out⟩
          · have hne : (S.toList == k.toList) = false := beq_ne hSk
            have HA2 : Hid (t = (xs.take (i + 1)).any fun x => decide (x.1 = k)) := HA.out _ (by simp [hSk])
            cases hkl : kl S k with
            | true =>
              have HP2 : Hid (pl k (xs.take (i + 1)) = p + 1) := by show _ = _; rw [HP.out, if_pos hkl]
              cases t
              all_goals
                go_wp2
                go_roundg (N - (i + 1))
                case measure => exact HD.out.1
                case rel => exact ⟨i + 1, _, HD.out.2, rfl, by rw [HP2.out]; go_num, rfl, by go_num, HW2.out, HSR.out, HA2.out⟩
            | false =>
              have HP2 : Hid (pl k (xs.take (i + 1)) = p) := by show _ = _; rw [HP.out, if_neg (by rw [hkl]; simp)]; rfl
              cases t
              all_goals
                go_wp2
                go_roundg (N - (i + 1))
                case measure => exact HD.out.1
                case rel => exact ⟨i + 1, _, HD.out.2, rfl, by rw [HP2.out], rfl, by go_num, HW2.out, HSR.out, HA2.out⟩
    · obtain rfl : i = N := by omega
      have HE : Hid (Srt xs ∧ t = (getL k xs).isSome ∧ pl k (xs.take i) = pl k xs) := by
        have e : xs.take i = xs := List.take_of_length_le (by rw [HN.out]; exact Nat.le_refl _)
        have hh := HI.out
        rw [e] at hh
        exact ⟨hh.1, by rw [isSome_any]; exact hh.2, by rw [e]⟩
      have hpp := HE.out.2.2
      rw [hpp]
      clear hpp
      go_wp2_with fail
      refine (HF.out _ HW.out.1).mono ?_
      rintro e w2 ⟨i2, o2, rfl, ⟨_, hio⟩, u2⟩
      obtain ⟨rfl, rfl⟩ := hio HE.out.1
      have ht := HE.out.2.1
      subst ht
      have HZ : Hid (Up w w2) := HW.out.1.trans u2
      clear hio u2 HW HI HX HE s0 s1 s2
      generalize (getL k xs).isSome = t
      generalize pl k xs = p
      cases t
      all_goals
        go_wp2
        go_ret
        exact ⟨rfl, HZ.out⟩
end Go.Proofs.YtffldmeocmemeaaDoor

/- record: the law RecordValid (laid by genValid.py). -/
import Derived.Test.YtcllenlpoknakaaDoorRcLaw
set_option linter.unusedVariables false
set_option linter.unusedSimpArgs false
namespace Go.Proofs.YtcllenlpoknakaaDoor
open Go Go.RowKit

theorem bool_eq (a : Bool) : (a == a) = true := by simp
/-- The truth of a record by its fields' truths. -/
theorem valid_bools (r : RecV) : decide (validR r) = (decide (1 ≤ r.key.length ∧ r.key.length ≤ 64) && (decide (r.kind = 1) && (decide (r.pk = 1 ∧ 1 ≤ r.gap ∧ r.limit = 0 ∧ r.span = 0) || decide (r.pk = 2 ∧ 1 ≤ r.span ∧ r.gap = 0 ∧ r.slack = 0)) && decide (lvlNo r) || decide (r.kind = 2) && decide (polNo r) && decide (lvlNo r) || decide (r.kind = 3) && decide (polNo r) && decide (r.tat = 0 ∨ r.idx = 0 ∧ r.cnt = 0))) := by
  rw [Bool.eq_iff_iff, decide_eq_true_iff]
  simp only [Bool.and_eq_true, Bool.or_eq_true, decide_eq_true_eq]
  unfold validR polOk
  constructor
  · rintro ⟨h1, h2, h | h | h⟩
    · exact ⟨⟨h1, h2⟩, .inl (.inl ⟨⟨h.1, h.2.1⟩, h.2.2⟩)⟩
    · exact ⟨⟨h1, h2⟩, .inl (.inr ⟨⟨h.1, h.2.1⟩, h.2.2⟩)⟩
    · exact ⟨⟨h1, h2⟩, .inr ⟨⟨h.1, h.2.1⟩, h.2.2⟩⟩
  · rintro ⟨⟨h1, h2⟩, (h | h) | h⟩
    · exact ⟨h1, h2, .inl ⟨h.1.1, h.1.2, h.2⟩⟩
    · exact ⟨h1, h2, .inr (.inl ⟨h.1.1, h.1.2, h.2⟩)⟩
    · exact ⟨h1, h2, .inr (.inr ⟨h.1.1, h.1.2, h.2⟩)⟩

set_option maxRecDepth 20000 in
set_option maxHeartbeats 6400000 in
theorem RecordValid_walk (k : Int) (f : Nat) (S : ByteArray) (pk : Int) (g s l p t i c : Nat) (w : World) (ad : Nat → Addr) (hk : RKn w ad) (K0 oV : Bool)
    (hkey : K0 = decide (1 ≤ S.size ∧ S.size ≤ 64)) (oF oG oP oL oR : Bool)
    (hF : oF = decide (pk = 1 ∧ 1 ≤ g ∧ l = 0 ∧ p = 0)) (hG : oG = decide (pk = 2 ∧ 1 ≤ p ∧ g = 0 ∧ s = 0)) (hR : oR = decide (t = 0 ∨ i = 0 ∧ c = 0))
    (hP : ∀ u, (binOp .eql 28 (.agg #[.int .i64 pk, V g, V s, V l, V p]) (.agg #[.int .i64 0, Z, Z, Z, Z])).run Tryd.prog u = .ok (.bool oP) u)
    (hL : ∀ u, (binOp .eql 30 (.agg #[V t, V i, V c]) (.agg #[Z, Z, Z])).run Tryd.prog u = .ok (.bool oL) u)
    (hv : oV = (K0 && (decide (k = 1) && (oF || oG) && oL || decide (k = 2) && oP && oL || decide (k = 3) && oP && oR)))
    (hV : ∀ w, Calls Tryd.prog 13 #[RcV k f S pk g s l p t i c] w fun e w' => e = .returned (.bool oV) ∧ Up w w') :
    Calls Tryd.prog 7 #[RcV k f S pk g s l p t i c] w fun e w' => e = .returned (.bool true) ∧ Up w w' := by
  have b0 : Box (w.alloc (.cells #[.int .i64 k, V f, .string S, .int .i64 pk, V g, V s, V l, V p, V t, V i, V c] 32)) w.heap.size #[.int .i64 k, V f, .string S, .int .i64 pk, V g, V s, V l, V p, V t, V i, V c] := Box.new _ _ _
  have u0 : Up w (w.alloc (.cells #[.int .i64 k, V f, .string S, .int .i64 pk, V g, V s, V l, V p, V t, V i, V c] 32)) := Up.alloc _ _
  have Hk : Hid (K0 = decide (1 ≤ S.size ∧ S.size ≤ 64)) := hkey
  have HF : Hid (oF = decide (pk = 1 ∧ 1 ≤ g ∧ l = 0 ∧ p = 0)) := hF
  have HG : Hid (oG = decide (pk = 2 ∧ 1 ≤ p ∧ g = 0 ∧ s = 0)) := hG
  have HR : Hid (oR = decide (t = 0 ∨ i = 0 ∧ c = 0)) := hR
  have Hv : Hid (oV = (K0 && (decide (k = 1) && (oF || oG) && oL || decide (k = 2) && oP && oL || decide (k = 3) && oP && oR))) := hv
  clear hkey hF hG hR hv
  go_enter Tryd.func7, Tryd.ntmps7
  go_wp2_with fail
  refine (rawake_any _ ad (hk.up u0)).mono ?_
  rintro e w1 ⟨rfl, u1⟩
  have b1 := b0.up u1
  have U1 := u0.trans u1
  clear b0 u0 u1 hk
  obtain ⟨c0, c1, c2, c3, c4, c5, c6, c7, c8, c9, c10⟩ := b1.c11
  go_upto_region 4 with fail
  go_cut [4] (fun x wx => x = .bool K0 ∧ w1 = wx)
  case first =>
    by_cases h1 : (1 : Int) ≤ (S.size : Int)
    · by_cases h2 : (S.size : Int) ≤ 64
      · go_wp2
        go_meet
        case rel =>
          refine ⟨?_, rfl⟩
          first | exact congrArg Value.bool (Hk.out.trans (decide_eq_true (by omega))).symm | exact congrArg Value.bool (Hk.out.trans (decide_eq_false (by omega))).symm
      · go_wp2
        go_meet
        case rel =>
          refine ⟨?_, rfl⟩
          first | exact congrArg Value.bool (Hk.out.trans (decide_eq_true (by omega))).symm | exact congrArg Value.bool (Hk.out.trans (decide_eq_false (by omega))).symm
    · go_wp2
      go_meet
      case rel =>
        refine ⟨?_, rfl⟩
        first | exact congrArg Value.bool (Hk.out.trans (decide_eq_true (by omega))).symm | exact congrArg Value.bool (Hk.out.trans (decide_eq_false (by omega))).symm
  case rest =>
    obtain ⟨rfl, hwc⟩ := hcut
    obtain rfl : w1 = wc := hwc
    go_upto_region 5 with fail
    go_cut [5] (fun x wx => x = .bool oF ∧ w1 = wx)
    case first =>
      rcases Bool.eq_false_or_eq_true (pk == 1) with e1 | e1
      · by_cases h2 : 0 < g
        · rcases Bool.eq_false_or_eq_true ((l : Int) == 0) with e3 | e3
          · rcases Bool.eq_false_or_eq_true ((p : Int) == 0) with e4 | e4
            · go_wp2
              go_meet
              case rel =>
                refine ⟨?_, rfl⟩
                simp only [beq_iff_eq, beq_eq_false_iff_ne, ne_eq] at e1 e3 e4
                first | exact congrArg Value.bool (HF.out.trans (decide_eq_true (by omega))).symm | exact congrArg Value.bool (HF.out.trans (decide_eq_false (by omega))).symm
            · go_wp2
              go_meet
              case rel =>
                refine ⟨?_, rfl⟩
                simp only [beq_iff_eq, beq_eq_false_iff_ne, ne_eq] at e1 e3 e4
                first | exact congrArg Value.bool (HF.out.trans (decide_eq_true (by omega))).symm | exact congrArg Value.bool (HF.out.trans (decide_eq_false (by omega))).symm
          · go_wp2
            go_meet
            case rel =>
              refine ⟨?_, rfl⟩
              simp only [beq_iff_eq, beq_eq_false_iff_ne, ne_eq] at e1 e3
              first | exact congrArg Value.bool (HF.out.trans (decide_eq_true (by omega))).symm | exact congrArg Value.bool (HF.out.trans (decide_eq_false (by omega))).symm
        · go_wp2
          go_meet
          case rel =>
            refine ⟨?_, rfl⟩
            simp only [beq_iff_eq, beq_eq_false_iff_ne, ne_eq] at e1
            first | exact congrArg Value.bool (HF.out.trans (decide_eq_true (by omega))).symm | exact congrArg Value.bool (HF.out.trans (decide_eq_false (by omega))).symm
      · go_wp2
        go_meet
        case rel =>
          refine ⟨?_, rfl⟩
          simp only [beq_iff_eq, beq_eq_false_iff_ne, ne_eq] at e1
          first | exact congrArg Value.bool (HF.out.trans (decide_eq_true (by omega))).symm | exact congrArg Value.bool (HF.out.trans (decide_eq_false (by omega))).symm
    case rest =>
      obtain ⟨rfl, hwc⟩ := hcut
      obtain rfl : w1 = wc := hwc
      go_upto_region 6 with fail
      go_cut [6] (fun x wx => x = .bool oG ∧ w1 = wx)
      case first =>
        rcases Bool.eq_false_or_eq_true (pk == 2) with e1 | e1
        · by_cases h2 : 0 < p
          · rcases Bool.eq_false_or_eq_true ((g : Int) == 0) with e3 | e3
            · rcases Bool.eq_false_or_eq_true ((s : Int) == 0) with e4 | e4
              · go_wp2
                go_meet
                case rel =>
                  refine ⟨?_, rfl⟩
                  simp only [beq_iff_eq, beq_eq_false_iff_ne, ne_eq] at e1 e3 e4
                  first | exact congrArg Value.bool (HG.out.trans (decide_eq_true (by omega))).symm | exact congrArg Value.bool (HG.out.trans (decide_eq_false (by omega))).symm
              · go_wp2
                go_meet
                case rel =>
                  refine ⟨?_, rfl⟩
                  simp only [beq_iff_eq, beq_eq_false_iff_ne, ne_eq] at e1 e3 e4
                  first | exact congrArg Value.bool (HG.out.trans (decide_eq_true (by omega))).symm | exact congrArg Value.bool (HG.out.trans (decide_eq_false (by omega))).symm
            · go_wp2
              go_meet
              case rel =>
                refine ⟨?_, rfl⟩
                simp only [beq_iff_eq, beq_eq_false_iff_ne, ne_eq] at e1 e3
                first | exact congrArg Value.bool (HG.out.trans (decide_eq_true (by omega))).symm | exact congrArg Value.bool (HG.out.trans (decide_eq_false (by omega))).symm
          · go_wp2
            go_meet
            case rel =>
              refine ⟨?_, rfl⟩
              simp only [beq_iff_eq, beq_eq_false_iff_ne, ne_eq] at e1
              first | exact congrArg Value.bool (HG.out.trans (decide_eq_true (by omega))).symm | exact congrArg Value.bool (HG.out.trans (decide_eq_false (by omega))).symm
        · go_wp2
          go_meet
          case rel =>
            refine ⟨?_, rfl⟩
            simp only [beq_iff_eq, beq_eq_false_iff_ne, ne_eq] at e1
            first | exact congrArg Value.bool (HG.out.trans (decide_eq_true (by omega))).symm | exact congrArg Value.bool (HG.out.trans (decide_eq_false (by omega))).symm
      case rest =>
        obtain ⟨rfl, hwc⟩ := hcut
        obtain rfl : w1 = wc := hwc
        go_upto_region 7 with fail
        go_cut [7] (fun x wx => x = .bool oP ∧ w1 = wx)
        case first =>
          go_wp2
          go_meet
          case rel => exact ⟨rfl, rfl⟩
        case rest =>
          obtain ⟨rfl, hwc⟩ := hcut
          obtain rfl : w1 = wc := hwc
          go_upto_region 8 with fail
          go_cut [8] (fun x wx => x = .bool oL ∧ w1 = wx)
          case first =>
            go_wp2
            go_meet
            case rel => exact ⟨rfl, rfl⟩
          case rest =>
            obtain ⟨rfl, hwc⟩ := hcut
            obtain rfl : w1 = wc := hwc
            go_upto_region 9 with fail
            go_cut [9] (fun x wx => x = .bool oR ∧ w1 = wx)
            case first =>
              rcases Bool.eq_false_or_eq_true ((t : Int) == 0) with e1 | e1
              · go_wp2
                go_meet
                case rel =>
                  refine ⟨?_, rfl⟩
                  simp only [beq_iff_eq, beq_eq_false_iff_ne, ne_eq] at e1
                  first | exact congrArg Value.bool (HR.out.trans (decide_eq_true (by omega))).symm | exact congrArg Value.bool (HR.out.trans (decide_eq_false (by omega))).symm
              · rcases Bool.eq_false_or_eq_true ((i : Int) == 0) with e2 | e2
                · rcases Bool.eq_false_or_eq_true ((c : Int) == 0) with e3 | e3
                  · go_wp2
                    go_meet
                    case rel =>
                      refine ⟨?_, rfl⟩
                      simp only [beq_iff_eq, beq_eq_false_iff_ne, ne_eq] at e1 e2 e3
                      first | exact congrArg Value.bool (HR.out.trans (decide_eq_true (by omega))).symm | exact congrArg Value.bool (HR.out.trans (decide_eq_false (by omega))).symm
                  · go_wp2
                    go_meet
                    case rel =>
                      refine ⟨?_, rfl⟩
                      simp only [beq_iff_eq, beq_eq_false_iff_ne, ne_eq] at e1 e2 e3
                      first | exact congrArg Value.bool (HR.out.trans (decide_eq_true (by omega))).symm | exact congrArg Value.bool (HR.out.trans (decide_eq_false (by omega))).symm
                · go_wp2
                  go_meet
                  case rel =>
                    refine ⟨?_, rfl⟩
                    simp only [beq_iff_eq, beq_eq_false_iff_ne, ne_eq] at e1 e2
                    first | exact congrArg Value.bool (HR.out.trans (decide_eq_true (by omega))).symm | exact congrArg Value.bool (HR.out.trans (decide_eq_false (by omega))).symm
            case rest =>
              obtain ⟨rfl, hwc⟩ := hcut
              obtain rfl : w1 = wc := hwc
              clear HF HG HR Hk hP hL
              cases K0
              · have hfin : oV = false := by rw [Hv.out]; simp
                subst hfin
                clear Hv
                go_wp2_with fail
                refine (hV _).mono ?_
                rintro e w2 ⟨rfl, u2⟩
                go_wp2
                go_ret
                exact ⟨rfl, U1.trans u2⟩
              · rcases Bool.eq_false_or_eq_true (k == 1) with e1 | e1
                · obtain rfl : k = 1 := by simpa using e1
                  clear e1
                  cases oL
                  all_goals cases oF
                  all_goals cases oG
                  · have hfin : oV = false := by rw [Hv.out]; simp
                    subst hfin
                    clear Hv
                    go_wp2_with fail
                    refine (hV _).mono ?_
                    rintro e w2 ⟨rfl, u2⟩
                    go_wp2
                    go_ret
                    exact ⟨rfl, U1.trans u2⟩
                  · have hfin : oV = false := by rw [Hv.out]; simp
                    subst hfin
                    clear Hv
                    go_wp2_with fail
                    refine (hV _).mono ?_
                    rintro e w2 ⟨rfl, u2⟩
                    go_wp2
                    go_ret
                    exact ⟨rfl, U1.trans u2⟩
                  · have hfin : oV = false := by rw [Hv.out]; simp
                    subst hfin
                    clear Hv
                    go_wp2_with fail
                    refine (hV _).mono ?_
                    rintro e w2 ⟨rfl, u2⟩
                    go_wp2
                    go_ret
                    exact ⟨rfl, U1.trans u2⟩
                  · have hfin : oV = false := by rw [Hv.out]; simp
                    subst hfin
                    clear Hv
                    go_wp2_with fail
                    refine (hV _).mono ?_
                    rintro e w2 ⟨rfl, u2⟩
                    go_wp2
                    go_ret
                    exact ⟨rfl, U1.trans u2⟩
                  · have hfin : oV = false := by rw [Hv.out]; simp
                    subst hfin
                    clear Hv
                    go_wp2_with fail
                    refine (hV _).mono ?_
                    rintro e w2 ⟨rfl, u2⟩
                    go_wp2
                    go_ret
                    exact ⟨rfl, U1.trans u2⟩
                  · have hfin : oV = true := by rw [Hv.out]; simp
                    subst hfin
                    clear Hv
                    go_wp2_with fail
                    refine (hV _).mono ?_
                    rintro e w2 ⟨rfl, u2⟩
                    go_wp2
                    go_ret
                    exact ⟨rfl, U1.trans u2⟩
                  · have hfin : oV = true := by rw [Hv.out]; simp
                    subst hfin
                    clear Hv
                    go_wp2_with fail
                    refine (hV _).mono ?_
                    rintro e w2 ⟨rfl, u2⟩
                    go_wp2
                    go_ret
                    exact ⟨rfl, U1.trans u2⟩
                  · have hfin : oV = true := by rw [Hv.out]; simp
                    subst hfin
                    clear Hv
                    go_wp2_with fail
                    refine (hV _).mono ?_
                    rintro e w2 ⟨rfl, u2⟩
                    go_wp2
                    go_ret
                    exact ⟨rfl, U1.trans u2⟩
                · have n1 : ¬ k = 1 := by simpa using e1
                  rcases Bool.eq_false_or_eq_true (k == 2) with e2 | e2
                  · obtain rfl : k = 2 := by simpa using e2
                    clear e1 e2 n1
                    cases oP
                    all_goals cases oL
                    · have hfin : oV = false := by rw [Hv.out]; simp
                      subst hfin
                      clear Hv
                      go_wp2_with fail
                      refine (hV _).mono ?_
                      rintro e w2 ⟨rfl, u2⟩
                      go_wp2
                      go_ret
                      exact ⟨rfl, U1.trans u2⟩
                    · have hfin : oV = false := by rw [Hv.out]; simp
                      subst hfin
                      clear Hv
                      go_wp2_with fail
                      refine (hV _).mono ?_
                      rintro e w2 ⟨rfl, u2⟩
                      go_wp2
                      go_ret
                      exact ⟨rfl, U1.trans u2⟩
                    · have hfin : oV = false := by rw [Hv.out]; simp
                      subst hfin
                      clear Hv
                      go_wp2_with fail
                      refine (hV _).mono ?_
                      rintro e w2 ⟨rfl, u2⟩
                      go_wp2
                      go_ret
                      exact ⟨rfl, U1.trans u2⟩
                    · have hfin : oV = true := by rw [Hv.out]; simp
                      subst hfin
                      clear Hv
                      go_wp2_with fail
                      refine (hV _).mono ?_
                      rintro e w2 ⟨rfl, u2⟩
                      go_wp2
                      go_ret
                      exact ⟨rfl, U1.trans u2⟩
                  · have n2 : ¬ k = 2 := by simpa using e2
                    rcases Bool.eq_false_or_eq_true (k == 3) with e3 | e3
                    · obtain rfl : k = 3 := by simpa using e3
                      clear e1 e2 e3 n1 n2
                      cases oP
                      all_goals cases oR
                      · have hfin : oV = false := by rw [Hv.out]; simp
                        subst hfin
                        clear Hv
                        go_wp2_with fail
                        refine (hV _).mono ?_
                        rintro e w2 ⟨rfl, u2⟩
                        go_wp2
                        go_ret
                        exact ⟨rfl, U1.trans u2⟩
                      · have hfin : oV = false := by rw [Hv.out]; simp
                        subst hfin
                        clear Hv
                        go_wp2_with fail
                        refine (hV _).mono ?_
                        rintro e w2 ⟨rfl, u2⟩
                        go_wp2
                        go_ret
                        exact ⟨rfl, U1.trans u2⟩
                      · have hfin : oV = false := by rw [Hv.out]; simp
                        subst hfin
                        clear Hv
                        go_wp2_with fail
                        refine (hV _).mono ?_
                        rintro e w2 ⟨rfl, u2⟩
                        go_wp2
                        go_ret
                        exact ⟨rfl, U1.trans u2⟩
                      · have hfin : oV = true := by rw [Hv.out]; simp
                        subst hfin
                        clear Hv
                        go_wp2_with fail
                        refine (hV _).mono ?_
                        rintro e w2 ⟨rfl, u2⟩
                        go_wp2
                        go_ret
                        exact ⟨rfl, U1.trans u2⟩
                    · have n3 : ¬ k = 3 := by simpa using e3
                      have hfin : oV = false := by rw [Hv.out]; simp [n1, n2, n3]
                      subst hfin
                      clear Hv
                      go_wp2_with fail
                      refine (hV _).mono ?_
                      rintro e w2 ⟨rfl, u2⟩
                      go_wp2
                      go_ret
                      exact ⟨rfl, U1.trans u2⟩

theorem RecordValid_any (r : RecV) (w : World) (ad : Nat → Addr) (hk : RKn w ad) :
    Calls Tryd.prog 7 #[RV r] w fun e w' => e = .returned (.bool true) ∧ Up w w' :=
  RecordValid_walk r.kind r.floor ⟨r.key.toArray⟩ r.pk r.gap r.slack r.limit r.span r.tat r.idx r.cnt w ad hk _ _ rfl _ _ _ _ _ rfl rfl rfl (policy_zero r.pk r.gap r.slack r.limit r.span) (level_zero r.tat r.idx r.cnt)
    (by rw [key_size]; exact valid_bools r) (RValid_any r)
end Go.Proofs.YtcllenlpoknakaaDoor

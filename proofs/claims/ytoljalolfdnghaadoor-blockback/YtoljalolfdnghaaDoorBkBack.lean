/- block: the law BlockBack. -/
import Derived.Test.YtoljalolfdnghaaDoorBkKn
set_option linter.unusedVariables false
set_option linter.unusedSimpArgs false
namespace Go.Proofs.YtoljalolfdnghaaDoor
open Go Go.RowKit

theorem not_num {first N : Nat} (h : ¬ NumOk first N) : N = 0 ∨ (0 < N ∧ first = 0) ∨ (0 < N ∧ 0 < first ∧ (4611686018427387904 : Int) < (first : Int)) ∨ (0 < N ∧ 0 < first ∧ ¬ (4611686018427387904 : Int) < (first : Int) ∧ 4611686018427387904 - (first : Int) < (N : Int) - 1) := by
  unfold NumOk at h
  omega

set_option maxRecDepth 20000 in
set_option maxHeartbeats 6400000 in
theorem BlockBack_any (first : Nat) (v : Value) (L : List (List UInt8)) (w : World) (ad : Nat → Addr) (hk : Kn w ad) (hf : first < 18446744073709551616) (hv : Rw w v L) (hn : L.length ≤ 140737488355328) (hl : ∀ r ∈ L, r.length ≤ 140737488355328) :
    Calls Tryd.prog 4 #[.int .u64 (first : Int), v] w fun e w' => e = .returned (.bool true) ∧ Up w w' := by
  have haw := awake_any w ad hk.tb hk.gl
  obtain ⟨ao, cap, hvv⟩ := hv.slice
  obtain ⟨N, hN⟩ : ∃ N, L.length = N := ⟨_, rfl⟩
  have HL : Hid (Rw w v L ∧ L.length = N ∧ ∀ r ∈ L, r.length ≤ 140737488355328) := ⟨hv, hN, hl⟩
  have HK : Hid (Kn w ad) := hk
  rw [hN] at hvv hn
  subst hvv
  clear hv hN hl hk
  go_enter Tryd.func4, Tryd.ntmps4
  go_wp2_with fail
  refine haw.mono ?_
  rintro e w1 ⟨rfl, u1⟩
  have hmany := many_any _ L w1 (HL.out.1.up u1) (by rw [HL.out.2.1]; exact hn) HL.out.2.2
  clear haw
  by_cases hm : Many L
  · rw [decide_eq_true hm] at hmany
    clear hm
    go_wp2_with fail
    refine hmany.mono ?_
    rintro e w2 ⟨rfl, e2⟩
    obtain rfl : w1 = w2 := e2.symm
    clear hmany
    go_wp2
    go_ret
    exact ⟨rfl, u1⟩
  · rw [decide_eq_false hm] at hmany
    have hN20 : N ≤ 1048576 := by rw [← HL.out.2.1]; unfold Many at hm; omega
    have HT : Hid (totN L ≤ 16777216) := by show _ ≤ _; unfold Many at hm; omega
    clear hm
    have hni : (N : Int) ≤ 1048576 := by omega
    have hn0 : (0 : Int) ≤ (N : Int) := by omega
    clear hn
    go_wp2_with fail
    refine hmany.mono ?_
    rintro e w2 ⟨rfl, e2⟩
    obtain rfl : w1 = w2 := e2.symm
    clear hmany
    have hcp := copied_any _ L w1 (HL.out.1.up u1) (by rw [HL.out.2.1]; omega) HL.out.2.2
    go_wp2_with fail
    refine hcp.mono ?_
    rintro e w2 ⟨v2, vs2, rfl, r2, u2⟩
    clear hcp
    have U2 := u1.trans u2
    have henc := Encode_any first v2 L w2 ad (HK.out.tb.up U2) (HK.out.gl.up U2) hf r2.recs.rw (by rw [HL.out.2.1]; omega)
    obtain ⟨a2, c2, rfl⟩ := r2.recs.slice
    rw [HL.out.2.1] at henc ⊢
    clear r2 u2
    go_wp2_with fail
    refine henc.mono ?_
    rintro e w3 ⟨v3, rfl, o3, u3⟩
    clear henc
    have U3 := U2.trans u3
    have K3 := HK.out.up U3
    have cA := K3.cell 0 (by simp)
    have cL := K3.cell 1 (by simp)
    have sA := eq_same (ad 0)
    have sL := eq_same (ad 1)
    have HU3 : Hid (Up w w3 ∧ Up w w1) := ⟨U3, u1⟩
    clear U2 u3 u1 U3
    by_cases hnum : NumOk first N
    · have hl1 : 0 < N := hnum.1
      have hz : ((N : Int) == 0) = false := by simp; omega
      have hz2 : ((first : Int) == 0) = false := by have := hnum.2.1; simp; omega
      have hg1 : ¬ (4611686018427387904 : Int) < (first : Int) := by have := hnum.2.2.1; omega
      have hg2 : ¬ 4611686018427387904 - (first : Int) < (N : Int) - 1 := by have := hnum.2.2; omega
      have hsz := size_any (.slice ao N cap) L w3 (HL.out.1.up HU3.out.1) (by rw [HL.out.2.1]; omega) HL.out.2.2
      rw [HL.out.2.1] at hsz
      have HN : Hid (NumOk first N) := hnum
      have H3 : Hid (Own w3 5 w2.heap.size v3 (encR first L) ∧ K3 = K3) := ⟨o3, rfl⟩
      obtain ⟨a3, c3, e3⟩ := o3.sl.slice
      obtain ⟨n3, hn3⟩ : ∃ n3, (encR first L).length = n3 := ⟨_, rfl⟩
      rw [hn3] at e3
      subst e3
      have HE : Hid ((encR first L).length = n3) := hn3
      obtain ⟨er, her⟩ : ∃ er, encE ad first L = er := ⟨_, rfl⟩
      have HER : Hid (encE ad first L = er) := her
      rw [her]
      clear o3 hnum hn3 her
      go_wp2_with fail
      refine hsz.mono ?_
      rintro e w4 ⟨⟨y, rfl, hy⟩, e4⟩
      obtain rfl : w3 = w4 := e4.symm
      clear hsz
      rcases hy with ⟨hy1, hy2⟩ | ⟨_, hbad⟩
      · have hy0 : (0 : Int) ≤ (y : Int) := by omega
        have HB : Hid ((bodyB L).length = 2 * N + y) := by show _ = _; rw [bodyB_tot, HL.out.2.1, hy2]
        clear hy2
        obtain ⟨q0, hq0⟩ : ∃ q0, decide ((494 : Int) < 2 * (N : Int) + (y : Int)) = q0 := ⟨_, rfl⟩
        have HQ : Hid (q0 = decide (494 < (bodyB L).length)) := by
          show _ = _
          rw [← hq0, HB.out]
          apply decide_eq_decide.2
          omega
        go_wp2
        clear hq0
        go_loopg [10, 11] N (fun g lo i wr => w3 = wr ∧ ∃ k : Nat, k ≤ N ∧ N - k = g ∧ i = .int .i64 k ∧ lo = .bool (q0 || anyLong (L.take k)))
        case atStart => exact ⟨rfl, 0, by omega, rfl, rfl, by simp [anyLong]⟩
        case round =>
          obtain ⟨rfl, k, hkN, rfl, rfl, rfl⟩ := hrel
          by_cases hlt : k < N
          · have Hlt : Hid (k < N) := hlt
            have l1 : k < L.length := by rw [HL.out.2.1]; exact hlt
            have hst : anyLong (L.take (k + 1)) = (anyLong (L.take k) || decide (200 < (L[k]'l1).length)) := by
              unfold anyLong
              rw [List.take_succ_eq_append_getElem l1, List.any_append]
              simp
            obtain ⟨B, hB⟩ : ∃ B, (q0 || anyLong (L.take k)) = B := ⟨_, rfl⟩
            have hst2 : (q0 || anyLong (L.take (k + 1))) = (B || decide (200 < (L[k]'l1).length)) := by rw [hst, ← hB, Bool.or_assoc]
            obtain ⟨b, o, c1, x, e1, h1⟩ := (HL.out.1).at k l1
            simp only [Value.slice.injEq] at e1
            obtain ⟨rfl, z1, rfl⟩ := e1
            clear z1
            obtain ⟨d1, hs1⟩ := h1 w3 HU3.out.1
            obtain ⟨ax, cx, rfl⟩ := hs1.slice
            obtain ⟨m, hm⟩ : ∃ m, (L[k]'l1).length = m := ⟨_, rfl⟩
            rw [hm] at d1 hst2
            rw [hB]
            have hm0 : (0 : Int) ≤ (m : Int) := by omega
            clear hst hB h1 hs1 hm l1
            cases B with
            | true =>
              have Hst : Hid (true = (q0 || anyLong (L.take (k + 1)))) := by show _ = _; rw [hst2]; rfl
              clear hst2
              go_wp2
              go_roundg (N - (k + 1))
              case measure => have := Hlt.out; omega
              case rel => exact ⟨rfl, k + 1, Hlt.out, rfl, by go_num, by rw [← Hst.out]⟩
            | false =>
              by_cases hbig : (200 : Int) < (m : Int)
              · have Hst : Hid (true = (q0 || anyLong (L.take (k + 1)))) := by show _ = _; rw [hst2, decide_eq_true (by omega)]; rfl
                clear hst2
                go_wp2
                go_roundg (N - (k + 1))
                case measure => have := Hlt.out; omega
                case rel => exact ⟨rfl, k + 1, Hlt.out, rfl, by go_num, by rw [← Hst.out]⟩
              · have Hst : Hid (false = (q0 || anyLong (L.take (k + 1)))) := by show _ = _; rw [hst2, decide_eq_false (by omega)]; rfl
                have hbig2 : decide ((200 : Int) < (m : Int)) = false := decide_eq_false hbig
                clear hst2
                go_wp2
                go_roundg (N - (k + 1))
                case measure => have := Hlt.out; omega
                case rel => exact ⟨rfl, k + 1, Hlt.out, rfl, by go_num, by rw [← Hst.out]⟩
          · obtain rfl : k = N := by omega
            have htk : L.take k = L := List.take_of_length_le (by rw [HL.out.2.1]; omega)
            rw [htk]
            have hnumL : NumOk first L.length := by rw [HL.out.2.1]; exact HN.out
            by_cases hlong : anyLong L = true ∨ 494 < (bodyB L).length
            · have hb : (q0 || anyLong L) = true := by
                rw [HQ.out]
                rcases hlong with h | h
                · rw [h, Bool.or_true]
                · rw [decide_eq_true h]; rfl
              have e1 : eLong ad = er := by rw [← HER.out, encE, if_pos hnumL, if_pos hlong]
              have e2 : 0 = n3 := by rw [← HE.out, encR, if_neg (fun h => h.2 hlong)]; rfl
              subst e1 e2
              rw [hb]
              clear hb hlong hnumL htk hlt
              go_wp2
              go_ret
              exact ⟨rfl, HU3.out.1⟩
            · have hb : (q0 || anyLong L) = false := by
                rw [HQ.out, decide_eq_false (fun h => hlong (.inr h))]
                cases h : anyLong L with
                | true => exact absurd (.inl h) hlong
                | false => rfl
              have hfit : FitB first L := fitB_of hnumL (by cases h : anyLong L with | true => exact absurd (.inl h) hlong | false => rfl) (by omega)
              have e1 : .nilIface = er := by rw [← HER.out, encE, if_pos hnumL, if_neg hlong]
              have eR : encR first L = blkB first L := by rw [encR, if_pos ⟨hnumL, hlong⟩]
              have e2 : 512 = n3 := by rw [← HE.out, eR]; exact (blkB_length hfit.room).symm
              have o3 := H3.out.1
              rw [eR] at o3
              have hbl := blkB_length (first := first) hfit.room
              have hdd := dec_blk hfit
              subst e1 e2
              rw [hb]
              have HD : Hid (decB (blkB first L) = .ok (first, L) ∧ (blkB first L).length = 512) := ⟨hdd, hbl⟩
              clear hb hlong hnumL htk hlt eR hfit hbl hdd HE HER cA cL sA sL HQ HB H3
              go_wp2_with (at_builtin; refine wpList_bytes_any _ rfl (.tmp 93) (.tmp 94) rfl w3.heap.size w2.heap.size _ _ [] (blkB first L) rfl rfl (own_built w3 [] (by simp)) (o3.sl.up (Up.alloc _ _)) (by simp) (by rw [HD.out.2]; simp) ?_)
              intro v5 w5 o5 g5
              have u5 : Up w3 w5 := grown_up (Up.alloc w3 (.cells #[] 5)) g5 (fun x hx => by cases hx; exact Nat.le_refl _)
              have U5 := HU3.out.1.trans u5
              have hdec := Decode_any w3.heap.size _ _ w5 ad (HK.out.tb.up U5) o5.sl (HK.out.gl.up U5)
              rw [HD.out.1] at hdec
              obtain ⟨a5, c5, rfl⟩ := o5.sl.slice
              clear o5 g5 u5 o3
              go_wp2_with fail
              refine hdec.mono ?_
              rintro e w6 ⟨⟨v6, vs6, rfl, r6⟩, u6⟩
              clear hdec
              have U6 := U5.trans u6
              have hal := alike_any v6 (.slice ao k cap) L L w6 r6.rw (HL.out.1.up U6) (by rw [HL.out.2.1]; omega) (by rw [HL.out.2.1]; omega) HL.out.2.2 HL.out.2.2
              rw [decide_eq_true rfl] at hal
              obtain ⟨a6, c6, rfl⟩ := r6.slice
              rw [HL.out.2.1] at hal ⊢
              clear r6 u6 U5
              go_wp2_with fail
              refine hal.mono ?_
              rintro e w7 ⟨rfl, hw7⟩
              have U7 := U6.trans (drew_up hw7)
              clear hal hw7
              go_wp2
              go_ret
              exact ⟨rfl, U7⟩
      · exact absurd hbad (by have := HT.out; omega)
    · have e1 : encE ad first L = eArg ad := by unfold encE; rw [HL.out.2.1, if_neg hnum]
      have e2 : encR first L = [] := by unfold encR; rw [HL.out.2.1, if_neg (fun h => hnum h.1)]
      rw [e2] at o3
      rw [e1]
      obtain ⟨a3, c3, e3⟩ := o3.sl.slice
      have e3 : v3 = .slice a3 0 c3 := e3
      subst e3
      have hcase := not_num hnum
      clear e1 e2 o3 K3 hnum cL sL
      rcases hcase with h | ⟨h1, h⟩ | ⟨h1, h2, h⟩ | ⟨h1, h2, h3, h⟩
      · subst h
        go_wp2
        go_ret
        exact ⟨rfl, HU3.out.1⟩
      · subst h
        have hz : ((N : Int) == 0) = false := by simp; omega
        go_wp2
        go_ret
        exact ⟨rfl, HU3.out.1⟩
      · have hz : ((N : Int) == 0) = false := by simp; omega
        have hz2 : ((first : Int) == 0) = false := by simp; omega
        go_wp2
        go_ret
        exact ⟨rfl, HU3.out.1⟩
      · have hz : ((N : Int) == 0) = false := by simp; omega
        have hz2 : ((first : Int) == 0) = false := by simp; omega
        go_wp2
        go_ret
        exact ⟨rfl, HU3.out.1⟩
end Go.Proofs.YtoljalolfdnghaaDoor

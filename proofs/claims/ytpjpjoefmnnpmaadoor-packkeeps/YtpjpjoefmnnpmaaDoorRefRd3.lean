/- The reference's reader of layer 1: its whole calls, Text and Number. -/
import Derived.Test.YtpjpjoefmnnpmaaDoorRefRd2
import Derived.Deep.QuietTactic
import Derived.BigQuiet
set_option linter.unusedVariables false
namespace Go.Proofs.YtpjpjoefmnnpmaaDoor
open Go Go.RowKit

theorem little_any (base : Nat) (r : Nat) (bs : List UInt8) (c n : Nat) (w : World) (h : RRd base w r bs c) (h1 : 0 < n) (h8 : n ≤ 8) :
    Calls Tryd.prog 61 #[.pointer (some ⟨r, 0, none⟩), .int .i64 n] w fun e w' => e = .returned (.int .u64 (cA n bs c)) ∧ RRd base w' r (cL n bs c) (cF n bs c) ∧ But r w w' := by
  by_cases hc : c = 0
  · subst hc
    by_cases hn : n ≤ bs.length
    · rw [show cA n bs 0 = unle (bs.take n) by simp [cA, hn], show cL n bs 0 = bs.drop n by simp [cL, hn], show cF n bs 0 = 0 by simp [cF, hn]]
      exact little_ok base r bs n w h hn h1 h8
    · rw [show cA n bs 0 = 0 by simp [cA, hn], show cL n bs 0 = bs by simp [cL, hn], show cF n bs 0 = 2 by simp [cF, hn]]
      exact little_short base r bs n w h (by omega)
  · rw [show cA n bs c = 0 by simp [cA, hc], show cL n bs c = bs by simp [cL, hc], show cF n bs c = c by simp [cF, hc]]
    refine (little_fault base r bs c n w h hc).mono ?_
    rintro e w' ⟨rfl, rfl⟩
    exact ⟨rfl, h, But.refl _ _⟩

theorem cA_lt (n : Nat) (bs : List UInt8) (c : Nat) : cA n bs c < 256 ^ n := by
  unfold cA
  split
  · have := unle_lt (bs.take n)
    rwa [show (bs.take n).length = n by simp; omega] at this
  · exact Nat.pow_pos (by omega)

theorem rU64_any (base : Nat) (r : Nat) (bs : List UInt8) (c : Nat) (w : World) (h : RRd base w r bs c) :
    Calls Tryd.prog 45 #[.pointer (some ⟨r, 0, none⟩)] w fun e w' => e = .returned (.int .u64 (cA 8 bs c)) ∧ RRd base w' r (cL 8 bs c) (cF 8 bs c) ∧ But r w w' := by
  go_enter Tryd.func45, Tryd.ntmps45
  go_wp2_with fail
  refine (little_any base r bs c 8 _ h (by omega) (by omega)).mono ?_
  rintro e w1 ⟨rfl, h1, h2⟩
  go_wp2
  go_ret
  exact ⟨rfl, h1, h2⟩
theorem rU32_any (base : Nat) (r : Nat) (bs : List UInt8) (c : Nat) (w : World) (h : RRd base w r bs c) :
    Calls Tryd.prog 43 #[.pointer (some ⟨r, 0, none⟩)] w fun e w' => e = .returned (.int .u32 (cA 4 bs c)) ∧ RRd base w' r (cL 4 bs c) (cF 4 bs c) ∧ But r w w' := by
  have hlt := cA_lt 4 bs c
  go_enter Tryd.func43, Tryd.ntmps43
  go_wp2_with fail
  refine (little_any base r bs c 4 _ h (by omega) (by omega)).mono ?_
  rintro e w1 ⟨rfl, h1, h2⟩
  go_wp2
  go_ret
  exact ⟨rfl, h1, h2⟩
theorem rU16_any (base : Nat) (r : Nat) (bs : List UInt8) (c : Nat) (w : World) (h : RRd base w r bs c) :
    Calls Tryd.prog 41 #[.pointer (some ⟨r, 0, none⟩)] w fun e w' => e = .returned (.int .u16 (cA 2 bs c)) ∧ RRd base w' r (cL 2 bs c) (cF 2 bs c) ∧ But r w w' := by
  have hlt := cA_lt 2 bs c
  go_enter Tryd.func41, Tryd.ntmps41
  go_wp2_with fail
  refine (little_any base r bs c 2 _ h (by omega) (by omega)).mono ?_
  rintro e w1 ⟨rfl, h1, h2⟩
  go_wp2
  go_ret
  exact ⟨rfl, h1, h2⟩
theorem rU8_any (base : Nat) (r : Nat) (bs : List UInt8) (c : Nat) (w : World) (h : RRd base w r bs c) :
    Calls Tryd.prog 39 #[.pointer (some ⟨r, 0, none⟩)] w fun e w' => e = .returned (.int .u8 (cA 1 bs c)) ∧ RRd base w' r (cL 1 bs c) (cF 1 bs c) ∧ But r w w' := by
  have hlt := cA_lt 1 bs c
  go_enter Tryd.func39, Tryd.ntmps39
  go_wp2_with fail
  refine (little_any base r bs c 1 _ h (by omega) (by omega)).mono ?_
  rintro e w1 ⟨rfl, h1, h2⟩
  go_wp2
  go_ret
  exact ⟨rfl, h1, h2⟩

/-! Text. -/
def tA (bs : List UInt8) (c : Nat) : List UInt8 := if c = 0 ∧ textOk bs then (bs.drop 2).take (unle (bs.take 2)) else []
def tL (bs : List UInt8) (c : Nat) : List UInt8 := if c = 0 ∧ textOk bs then bs.drop (2 + unle (bs.take 2)) else bs
def tF (bs : List UInt8) (c : Nat) : Nat := if c = 0 then (if textOk bs then 0 else 2) else c

theorem rtext_fault (base : Nat) (r : Nat) (bs : List UInt8) (c : Nat) (w : World) (h : RRd base w r bs c) (hc : c ≠ 0) :
    Calls Tryd.prog 46 #[.pointer (some ⟨r, 0, none⟩)] w fun e w' => e = .returned (.string ⟨#[]⟩) ∧ w' = w := by
  obtain ⟨v, hs, hh, h0, h1, f0, f1⟩ := rrd_cells h
  have hg : ((c : Int) != 0) = true := by simp; omega
  clear h hc
  go_enter Tryd.func46, Tryd.ntmps46
  go_wp2
  go_ret
  exact ⟨rfl, rfl⟩

set_option maxHeartbeats 400000 in
theorem rtext_short1 (base : Nat) (r : Nat) (bs : List UInt8) (w : World) (h : RRd base w r bs 0) (hn : (bs.length : Int) < 2) :
    Calls Tryd.prog 46 #[.pointer (some ⟨r, 0, none⟩)] w fun e w' => e = .returned (.string ⟨#[]⟩) ∧ RRd base w' r bs 2 ∧ But r w w' := by
  obtain ⟨v, hs, hh, h0, h1, f0, f1⟩ := rrd_cells h
  obtain ⟨ao, cap, rfl, _⟩ := hs
  go_enter Tryd.func46, Tryd.ntmps46
  go_wp2_with fail
  refine (fail_any base r bs 0 2 _ h).mono ?_
  rintro e w1 ⟨rfl, h1, h2⟩
  go_wp2
  go_ret
  exact ⟨rfl, h1, h2⟩

theorem take2 : ∀ (bs : List UInt8) (h : 2 ≤ bs.length), bs.take 2 = [bs[0]'(by omega), bs[1]'(by omega)]
  | _ :: _ :: _, _ => rfl

set_option maxHeartbeats 800000 in
theorem rtext_long (base : Nat) (r : Nat) (bs : List UInt8) (w : World) (h : RRd base w r bs 0) (hn : (2 : Int) ≤ (bs.length : Int)) (hl : bs.length ≤ 140737488351232) (n : Nat) (hu : Hid (unle (bs.take 2) = n)) :
    Calls Tryd.prog 46 #[.pointer (some ⟨r, 0, none⟩)] w fun e w' => e = .returned (.string ⟨(if 2 + n ≤ bs.length then (bs.drop 2).take n else []).toArray⟩) ∧ RRd base w' r (if 2 + n ≤ bs.length then bs.drop (2 + n) else bs) (if 2 + n ≤ bs.length then 0 else 2) ∧ But r w w' := by
  obtain ⟨v, hs, hh, h0, h1, f0, f1⟩ := rrd_cells h
  have hs0 := hs
  obtain ⟨ao, cap, rfl, _, _, hx⟩ := hs
  obtain ⟨b, o, rfl, _, ha⟩ := hx (by rintro rfl; simp at hn)
  have c0 := ha 0 (by omega)
  have c1 := ha 1 (by omega)
  simp only [B, Nat.add_zero] at c0 c1
  have hq0 := (bs[0]'(by omega)).toNat_lt
  have hq1 := (bs[1]'(by omega)).toNat_lt
  have hv : Hid ((((bs[0]'(by omega)).toNat : Int) + (256 : Int) * ((bs[1]'(by omega)).toNat : Int)) = (n : Int)) := by
    show _ = _
    rw [← hu.out, take2 bs (by omega)]
    simp [unle]
  have g0 : (((bs[0]'(by omega)).toNat : Int)) ≤ 255 := by omega
  have g1 : (((bs[1]'(by omega)).toNat : Int)) ≤ 255 := by omega
  have hn65 : (n : Int) ≤ 65535 := by have := hv.out; omega
  clear ha hx hq0 hq1
  generalize (bs[0]'(by omega)).toNat = q0 at c0 hv g0
  generalize (bs[1]'(by omega)).toNat = q1 at c1 hv g1
  by_cases hok : 2 + n ≤ bs.length
  · simp only [if_pos hok]
    obtain ⟨vc, cc, hq1', _, _⟩ := sl_cut hs0 2 (2 + n) (by omega) hok
    rw [show 2 + n - 2 = n by omega] at cc
    have qc : ∀ u, (Instr.slice 25 (.slice (some ⟨b, o, none⟩) bs.length cap) (some (.int .i64 2)) (some (.int .i64 (2 + (n : Int)))) none).run Tryd.prog u = .ok vc u := by
      intro u; have := hq1' u; rw [show ((2 + n : Nat) : Int) = 2 + (n : Int) from by omega] at this; exact this
    obtain ⟨vd, cd, _, _, hq2'⟩ := sl_cut hs0 (2 + n) bs.length hok (by omega)
    have qd : ∀ u, (Instr.slice 25 (.slice (some ⟨b, o, none⟩) bs.length cap) (some (.int .i64 (2 + (n : Int)))) none none).run Tryd.prog u = .ok vd u := by
      intro u; have := hq2' rfl u; rw [show ((2 + n : Nat) : Int) = 2 + (n : Int) from by omega] at this; exact this
    rw [List.take_of_length_le (by simp)] at cd
    have hst : ∀ k, (convert 25 9 vc).run Tryd.prog (w.drewN k) = .ok (.string ⟨((bs.drop 2).take n).toArray⟩) (w.drewN k) := fun k => sl_string (cc.up (below_drewN (Up.refl w) k))
    obtain ⟨S, hS⟩ : ∃ S : ByteArray, S = ⟨((bs.drop 2).take n).toArray⟩ := ⟨_, rfl⟩
    rw [← hS]
    rw [← hS] at hst
    have hr : ∀ k, RRd base ((w.drewN k).setCell ⟨r, 0, none⟩ vd) r (bs.drop (2 + n)) 0 := fun k => rrd_set_left (h.up (below_drewN (Up.refl w) k)) (cd.up (below_drewN (Up.refl w) k))
    obtain ⟨ao2, cap2, rfl, _⟩ := cc
    obtain ⟨ao3, cap3, rfl, _⟩ := cd
    rw [show ((bs.drop 2).take n).length = n by simp; omega] at hst qc
    rw [show (bs.drop (2 + n)).length = bs.length - (2 + n) by simp] at qd hr
    have Hok : Hid (2 + n ≤ bs.length) := hok
    have hok2 : 2 + (n : Int) ≤ (bs.length : Int) := by omega
    clear hq1' hq2' hS h hok
    go_enter Tryd.func46, Tryd.ntmps46
    go_wp2_with fail
    go_quiet (fail)
    rw [hv.out]
    have k1 := hst nq
    have k2 := hr nq
    have Hn : Hid (2 + (n : Int) ≤ (bs.length : Int)) := hok2
    clear hr hst g0 g1
    go_wp2
    go_ret
    exact ⟨rfl, k2, (But.of_up r (below_drewN (Up.refl w) nq)).trans (But.setCell _ _ _ _)⟩
  · simp only [if_neg hok]
    have hr : ∀ k, RRd base (w.drewN k) r bs 0 := fun k => h.up (below_drewN (Up.refl w) k)
    have hok2 : (bs.length : Int) < 2 + (n : Int) := by omega
    clear h hok
    go_enter Tryd.func46, Tryd.ntmps46
    go_wp2_with fail
    go_quiet (fail)
    rw [hv.out]
    clear g0 g1
    go_wp2_with fail
    refine (fail_any base r bs 0 2 _ (hr _)).mono ?_
    rintro e w1 ⟨rfl, h1, h2⟩
    go_wp2
    go_ret
    exact ⟨rfl, h1, (But.of_up r (below_drewN (Up.refl w) _)).trans h2⟩

theorem rText_any (base : Nat) (r : Nat) (bs : List UInt8) (c : Nat) (w : World) (h : RRd base w r bs c) (hl : bs.length ≤ 140737488351232) :
    Calls Tryd.prog 46 #[.pointer (some ⟨r, 0, none⟩)] w fun e w' => e = .returned (.string ⟨(tA bs c).toArray⟩) ∧ RRd base w' r (tL bs c) (tF bs c) ∧ But r w w' := by
  by_cases hc : c = 0
  · subst hc
    by_cases h2 : 2 ≤ bs.length
    · have key := rtext_long base r bs w h (by omega) hl _ rfl
      by_cases h3 : 2 + unle (bs.take 2) ≤ bs.length
      · have hok : textOk bs := ⟨h2, h3⟩
        simp only [if_pos h3] at key
        rw [show tA bs 0 = (bs.drop 2).take (unle (bs.take 2)) by unfold tA; rw [if_pos ⟨rfl, hok⟩], show tL bs 0 = bs.drop (2 + unle (bs.take 2)) by unfold tL; rw [if_pos ⟨rfl, hok⟩], show tF bs 0 = 0 by unfold tF; rw [if_pos rfl, if_pos hok]]
        exact key
      · have hok : ¬ textOk bs := fun h => h3 h.2
        simp only [if_neg h3] at key
        rw [show tA bs 0 = [] by unfold tA; rw [if_neg (fun h => hok h.2)], show tL bs 0 = bs by unfold tL; rw [if_neg (fun h => hok h.2)], show tF bs 0 = 2 by unfold tF; rw [if_pos rfl, if_neg hok]]
        exact key
    · have hok : ¬ textOk bs := fun h => h2 h.1
      rw [show tA bs 0 = [] by unfold tA; rw [if_neg (fun h => hok h.2)], show tL bs 0 = bs by unfold tL; rw [if_neg (fun h => hok h.2)], show tF bs 0 = 2 by unfold tF; rw [if_pos rfl, if_neg hok]]
      exact rtext_short1 base r bs w h (by omega)
  · rw [show tA bs c = [] by simp [tA, hc], show tL bs c = bs by simp [tL, hc], show tF bs c = c by simp [tF, hc]]
    refine (rtext_fault base r bs c w h hc).mono ?_
    rintro e w' ⟨rfl, rfl⟩
    exact ⟨rfl, h, But.refl _ _⟩

/-! Number. -/
def grp : Nat → List UInt8 → Nat
  | _, [] => 0
  | i, c :: r => if i = 10 then 0 else if c.toNat < 128 then i + 1 else grp (i + 1) r

set_option maxHeartbeats 400000 in
theorem groups_any (base : Nat) (v : Value) (bs : List UInt8) (w : World) (hs : Sl base w v bs) (hl : bs.length ≤ 140737488351232) :
    Calls Tryd.prog 63 #[v] w fun e w' => e = .returned (.int .i64 (grp 0 bs)) ∧ w' = w := by
  obtain ⟨ao, cap, rfl, _, _, hx⟩ := hs
  obtain ⟨G, hG⟩ : ∃ G, G = grp 0 bs := ⟨_, rfl⟩
  rw [← hG]
  have HG : Hid (G = grp 0 bs) := hG
  clear hG
  go_enter Tryd.func63, Tryd.ntmps63
  go_wp2_with fail
  go_loop [3] (fun i => ∃ k : Nat, k ≤ bs.length ∧ i = .int .i64 k ∧ (k : Int) ≤ 10 ∧ Hid (G = grp k (bs.drop k))) (fun i => bs.length - (intOf i).toNat)
  case atStart => exact ⟨0, Nat.zero_le _, rfl, by omega, HG⟩
  case round =>
    obtain ⟨k, hk, rfl, hk10, hg⟩ := hrel
    by_cases hlt : k < bs.length
    · obtain ⟨b, o, rfl, _, ha⟩ := hx (by rintro rfl; simp at hlt)
      have hc := ha k hlt
      have he : Hid (G = if k = 10 then 0 else if (bs[k]'hlt).toNat < 128 then k + 1 else grp (k + 1) (bs.drop (k + 1))) := by
        show G = _
        rw [hg.out, List.drop_eq_getElem_cons hlt]; rfl
      simp only [B] at hc
      clear ha hx hg
      generalize (bs[k]'hlt).toNat = q at hc he
      by_cases h10 : k = 10
      · have hG0 : Hid (G = 0) := by show G = 0; rw [he.out, if_pos h10]
        subst h10
        clear he hk10 hk
        go_wp2
        go_ret
        exact ⟨by rw [hG0.out]; rfl, rfl⟩
      · have g10 : (k : Int) < 10 := by omega
        by_cases h128 : q < 128
        · have hG0 : Hid (G = k + 1) := by show G = _; rw [he.out, if_neg h10, if_pos h128]
          have g3 : decide ((q : Int) < 128) = true := by simp; omega
          clear he hk10 hk h10 h128
          go_wp2
          go_ret
          exact ⟨by rw [hG0.out]; simp, rfl⟩
        · have hG0 : Hid (G = grp (k + 1) (bs.drop (k + 1))) := by show G = _; rw [he.out, if_neg h10, if_neg h128]
          have g3 : decide ((q : Int) < 128) = false := by simp; omega
          clear he hk10 hk h10 h128
          go_wp2
          go_round
          case rel => exact ⟨k + 1, by omega, by go_num, by omega, hG0⟩
          case measure => simp [intOf]; omega
    · have hG0 : Hid (G = 0) := by show G = 0; rw [hg.out, List.drop_of_length_le (by omega)]; rfl
      clear hg hx
      go_wp2
      go_ret
      exact ⟨by rw [hG0.out]; rfl, rfl⟩
end Go.Proofs.YtpjpjoefmnnpmaaDoor

/- Merged: ImRefC, ImRefD. -/
import Derived.Test.YtooclofdljampaaDoorImLaw2
import Derived.Test.YtooclofdljampaaDoorImTake
set_option linter.unusedVariables false
set_option linter.unusedSimpArgs false
namespace Go.Proofs.YtooclofdljampaaDoor
open Go Go.RowKit

/-- The Cut at r over the bytes bs of v, in the state st. -/
structure CutS (w : World) (r : Nat) (v : Value) (bs : List UInt8) (st : Option (List UInt8)) : Prop where
  box : ∃ (at_ : Nat) (sh : Bool), Box w r #[v, .int .i64 (at_ : Int), .bool sh] ∧ at_ ≤ bs.length ∧ st = if sh then none else some (bs.drop at_)
  sl : SlP (fun b => b < r) w v bs
theorem SlP.butR {w w' : World} {r : Nat} {v : Value} {bs : List UInt8} (h : SlP (fun b => b < r) w v bs) (hb : But r w w') : SlP (fun b => b < r) w' v bs := by
  obtain ⟨ao, cap, rfl, h2, h3, hx⟩ := h
  refine ⟨_, _, rfl, h2, h3, fun hne => ?_⟩
  obtain ⟨b, o, e, hlt, ha⟩ := hx hne
  exact ⟨b, o, e, hlt, fun i hi => by rw [hb.cell (ha i hi) (by simp; omega)]⟩
theorem CutS.up {w w' : World} {r : Nat} {v : Value} {bs : List UInt8} {st : Option (List UInt8)} (h : CutS w r v bs st) (u : Up w w') : CutS w' r v bs st := by
  obtain ⟨⟨a, s, hb, h2⟩, hs⟩ := h
  exact ⟨⟨a, s, hb.up u, h2⟩, hs.up u⟩

theorem lb_consR (c : UInt8) (cs : List UInt8) : lb (c :: cs) = c.toNat + 256 * lb cs := rfl
/-- A store into a Cut's box. -/
theorem CutS.put {w : World} {r : Nat} {v : Value} {bs : List UInt8} {a0 : Nat} {s0 : Bool} (hb : Box w r #[v, .int .i64 (a0 : Int), .bool s0]) (hs : SlP (fun b => b < r) w v bs) (a : Nat) (ha : a ≤ bs.length) : CutS (w.setCell ⟨r, 1, none⟩ (.int .i64 (a : Int))) r v bs (if s0 then none else some (bs.drop a)) :=
  ⟨⟨a, s0, hb.set 1 _, ha, rfl⟩, hs.butR (But.setCell w r 1 _)⟩
theorem CutS.stop {w : World} {r : Nat} {v : Value} {bs : List UInt8} {a0 : Nat} {s0 : Bool} (hb : Box w r #[v, .int .i64 (a0 : Int), .bool s0]) (ha : a0 ≤ bs.length) (hs : SlP (fun b => b < r) w v bs) : CutS (w.setCell ⟨r, 2, none⟩ (.bool true)) r v bs none :=
  ⟨⟨a0, true, hb.set 2 _, ha, rfl⟩, hs.butR (But.setCell w r 2 _)⟩

set_option maxHeartbeats 1600000 in
theorem qNumber_short (r : Nat) (v : Value) (bs : List UInt8) (a0 n : Nat) (s0 : Bool) (w : World) (hb : Box w r #[v, .int .i64 (a0 : Int), .bool s0]) (ha : a0 ≤ bs.length) (hs : SlP (fun b => b < r) w v bs) (hl : (bs.length : Int) ≤ 140737488351232) (hn : (n : Int) ≤ 8)
    (h : s0 = true ∨ s0 = false ∧ (bs.length : Int) - (a0 : Int) < (n : Int)) :
    Calls Tryd.prog 39 #[.pointer (some ⟨r, 0, none⟩), .int .i64 (n : Int)] w fun e w' => e = .returned Z ∧ CutS w' r v bs none ∧ But r w w' := by
  have hs' := hs
  obtain ⟨ao, cap, rfl, _⟩ := hs'
  obtain ⟨N, hN⟩ : ∃ N, bs.length = N := ⟨_, rfl⟩
  have HH : Hid (bs.length = N ∧ a0 ≤ bs.length) := ⟨hN, ha⟩
  rw [hN] at hl h hb hs ⊢
  have ha2 : (a0 : Int) ≤ (N : Int) := by omega
  have ha3 : (0 : Int) ≤ (a0 : Int) := by omega
  clear hN ha
  obtain ⟨c0, c1, c2⟩ := hb.c3
  rcases h with rfl | ⟨rfl, h⟩
  all_goals
    go_enter Tryd.func39, Tryd.ntmps39
    go_wp2
    go_quiet (fail)
    obtain ⟨w1, hw1⟩ : ∃ w1, w.drewN nq = w1 := ⟨_, rfl⟩
    have u1 : Up w w1 := by rw [← hw1]; exact up_drewN _ _
    have b1 := hb.up u1
    have s1 := hs.up u1
    rw [hw1]
    clear hw1 c0 c1 c2 hb hs
    obtain ⟨c0, c1, c2⟩ := b1.c3
    have cf := b1.frozen
    have cl := b1.lt
    have D := CutS.stop b1 HH.out.2 s1
    have g := (But.of_up r u1).trans (But.setCell w1 r 2 (.bool true))
    go_wp2
    go_ret
    exact ⟨rfl, by simpa [HH.out.1] using D, g⟩

set_option maxRecDepth 20000 in
set_option maxHeartbeats 3200000 in
theorem qNumber_ok (r : Nat) (v : Value) (bs : List UInt8) (at_ n : Nat) (w : World) (hb : Box w r #[v, .int .i64 (at_ : Int), .bool false]) (ha : at_ + n ≤ bs.length) (hs : SlP (fun b => b < r) w v bs) (hl : (bs.length : Int) ≤ 140737488351232) (hn : n ≤ 8) (hn1 : 1 ≤ n) :
    Calls Tryd.prog 39 #[.pointer (some ⟨r, 0, none⟩), .int .i64 (n : Int)] w fun e w' => e = .returned (V (lb ((bs.drop at_).take n))) ∧ CutS w' r v bs (some (bs.drop (at_ + n))) ∧ But r w w' := by
  obtain ⟨R, hR⟩ : ∃ R, lb ((bs.drop at_).take n) = R := ⟨_, rfl⟩
  rw [hR]
  have HR0 : Hid (lb ((bs.drop at_).take n) = R ∧ at_ + n ≤ bs.length ∧ n ≤ 8) := ⟨hR, ha, hn⟩
  have hs' := hs
  obtain ⟨ao, cap, rfl, _, _, hx⟩ := hs'
  obtain ⟨N, hN⟩ : ∃ N, bs.length = N := ⟨_, rfl⟩
  have HN : Hid (bs.length = N) := hN
  rw [hN] at ha hl hb hs ⊢
  have HB : Hid (Box w r #[.slice ao N cap, .int .i64 (at_ : Int), .bool false]) := hb
  have HS : Hid (SlP (fun b => b < r) w (.slice ao N cap) bs) := hs
  have hai : (at_ : Int) + (n : Int) ≤ (N : Int) := by omega
  have hn8 : (n : Int) ≤ 8 := by omega
  have hn0 : (1 : Int) ≤ (n : Int) := by omega
  have hat0 : (0 : Int) ≤ (at_ : Int) := by omega
  have hno : ¬ (N : Int) - (at_ : Int) < (n : Int) := by omega
  obtain ⟨c0, c1, c2⟩ := hb.c3
  clear hR ha hn hN hn1 hs
  go_enter Tryd.func39, Tryd.ntmps39
  go_wp2
  go_quiet (fail)
  obtain ⟨w1, hw1⟩ : ∃ w1, w.drewN nq = w1 := ⟨_, rfl⟩
  have HW : Hid (w.drewN nq = w1) := hw1
  rw [hw1]
  clear hw1 c0 c1 c2 hb hno
  go_wp2
  go_loopg [5, 6] n (fun g x i wr => ∃ k : Nat, k ≤ n ∧ n - k = g ∧ i = .int .i64 ((n : Int) - (k : Int) - 1) ∧ x = .int .u64 ((lb (((bs.drop at_).take n).drop (n - k)) : Nat) : Int) ∧ Hid (∃ q, w.drewN q = wr))
  case atStart => exact ⟨0, by omega, by omega, by simp, by rw [Nat.sub_zero, List.drop_of_length_le (by simp; omega)]; rfl, ⟨_, HW.out⟩⟩
  case round =>
    obtain ⟨k, hk, rfl, rfl, rfl, HQ⟩ := hrel
    obtain ⟨q0, hq0⟩ := HQ.out
    have ur : Up w wr := by rw [← hq0]; exact up_drewN _ _
    have HQ0 : Hid (w.drewN q0 = wr) := hq0
    have br := HB.out.up ur
    have sr := HS.out.up ur
    have Ur : Hid (Up w wr) := ur
    clear hq0 HQ ur
    obtain ⟨c0, c1, c2⟩ := br.c3
    by_cases hlt : k < n
    · have Hlt : Hid (k < n) := hlt
      have hne : bs ≠ [] := by rintro rfl; have := HR0.out.2.1; simp at this; omega
      obtain ⟨b, o, rfl, _, hat⟩ := hx hne
      have hi1 : at_ + (n - (k + 1)) < bs.length := by have := HR0.out.2.1; omega
      have hc := (hat.up Ur.out) _ hi1
      obtain ⟨t, ht⟩ : ∃ t, n - (k + 1) = t := ⟨_, rfl⟩
      have hti : (n : Int) - (k : Int) - 1 = (t : Int) := by omega
      have hnk : n - k = t + 1 := by omega
      have hl2 : t < ((bs.drop at_).take n).length := by rw [List.length_take, List.length_drop]; have := HR0.out.2.1; omega
      have hdr : ((bs.drop at_).take n).drop t = bs[at_ + (n - (k + 1))]'hi1 :: ((bs.drop at_).take n).drop (n - k) := by
        rw [List.drop_eq_getElem_cons hl2, hnk]
        congr 1
        simp [ht]
      obtain ⟨c, hcc⟩ : ∃ c, bs[at_ + (n - (k + 1))]'hi1 = c := ⟨_, rfl⟩
      rw [hcc] at hdr hc
      rw [ht] at hc
      have hst : lb (((bs.drop at_).take n).drop (n - (k + 1))) = c.toNat + 256 * lb (((bs.drop at_).take n).drop (n - k)) := by rw [ht, hdr, lb_consR]
      have hlb : lb (((bs.drop at_).take n).drop (n - k)) < 256 ^ k := by
        have := lb_lt (((bs.drop at_).take n).drop (n - k))
        rwa [show (((bs.drop at_).take n).drop (n - k)).length = k by simp; have := HR0.out.2.1; omega] at this
      have hlb7 : lb (((bs.drop at_).take n).drop (n - k)) < 256 ^ 7 := Nat.lt_of_lt_of_le hlb (Nat.pow_le_pow_right (by omega) (by have := HR0.out.2.2; omega))
      obtain ⟨X, hX⟩ : ∃ X, lb (((bs.drop at_).take n).drop (n - k)) = X := ⟨_, rfl⟩
      rw [hX] at hst hlb7 ⊢
      have hXi : (X : Int) < 72057594037927936 := by omega
      have hX0 : (0 : Int) ≤ (X : Int) := by omega
      have hq := c.toNat_lt
      have hq2 : (c.toNat : Int) < 256 := by omega
      have hq0 : (0 : Int) ≤ (c.toNat : Int) := by omega
      have Hst : Hid (lb (((bs.drop at_).take n).drop (n - (k + 1))) = c.toNat + 256 * X) := hst
      have ht0 : (0 : Int) ≤ (t : Int) := by omega
      have hts : (at_ : Int) + (t : Int) < (N : Int) := by omega
      have Hti : Hid ((t : Int) - 1 = (n : Int) - ((k + 1 : Nat) : Int) - 1) := by show _ = _; omega
      have Hsi : Hid ((c.toNat : Int) + 256 * (X : Int) = ((c.toNat + 256 * X : Nat) : Int)) := by show _ = _; omega
      rw [hti]
      simp only [B] at hc
      clear hx hat hdr hst hlb hlb7 hX hcc hl2 hi1 hne hnk ht hti hlt hq br sr
      go_wp2_with fail
      go_quiet (fail)
      obtain ⟨w8, hw8⟩ : ∃ w8, wr.drewN nq = w8 := ⟨_, rfl⟩
      have H8 : Hid (∃ q, w.drewN q = w8) := ⟨q0 + nq, by rw [← hw8, ← HQ0.out, World.drewN_drewN]⟩
      rw [hw8]
      clear hw8 c0 c1 c2 hc HQ0
      go_wp2
      go_roundg (n - (k + 1))
      case measure => have := Hlt.out; omega
      case rel => exact ⟨k + 1, Hlt.out, rfl, by rw [← Hti.out], by rw [Hst.out]; first | (rw [← Hsi.out]; congr 1; omega) | (congr 1; have := Hsi.out; omega), H8⟩
    · obtain rfl : k = n := by omega
      have hr : lb (((bs.drop at_).take k).drop (k - k)) = R := by rw [Nat.sub_self, List.drop_zero, HR0.out.1]
      rw [hr]
      have hm : (k : Int) - (k : Int) - 1 = -1 := by omega
      rw [hm]
      have D := CutS.put br sr (at_ + k) HR0.out.2.1
      have g := (But.of_up r Ur.out).trans (But.setCell wr r 1 (.int .i64 ((at_ + k : Nat) : Int)))
      have hcast : ((at_ + k : Nat) : Int) = (at_ : Int) + (k : Int) := by omega
      rw [hcast] at D g
      have cf := br.frozen
      have cl := br.lt
      have HD := show Hid _ from D
      have Hg := show Hid _ from g
      clear hr HR0 hx hm hcast D g br sr HQ0
      go_wp2
      go_ret
      exact ⟨rfl, by simpa using HD.out, Hg.out⟩

/-- Number, whatever the state. -/
theorem qNumber_S {r : Nat} {v : Value} {bs : List UInt8} {st : Option (List UInt8)} {w : World} (h : CutS w r v bs st) (hl : (bs.length : Int) ≤ 140737488351232) (n : Nat) (hn : n ≤ 8) (hn1 : 1 ≤ n) :
    Calls Tryd.prog 39 #[.pointer (some ⟨r, 0, none⟩), .int .i64 (n : Int)] w fun e w' => e = .returned (V (rdA n st).1) ∧ CutS w' r v bs (rdA n st).2 ∧ But r w w' := by
  obtain ⟨⟨a0, s0, hb, ha, rfl⟩, hs⟩ := h
  cases s0 with
  | true => exact qNumber_short r v bs a0 n true w hb ha hs hl (by omega) (.inl rfl)
  | false =>
    by_cases hlt : (bs.drop a0).length < n
    · have e : rdA n (some (bs.drop a0)) = (0, none) := by simp only [rdA]; rw [if_pos hlt]
      show Calls _ _ _ _ fun e w' => e = .returned (V (rdA n (some (bs.drop a0))).1) ∧ CutS w' r v bs (rdA n (some (bs.drop a0))).2 ∧ But r w w'
      rw [e]
      rw [List.length_drop] at hlt
      exact qNumber_short r v bs a0 n false w hb ha hs hl (by omega) (.inr ⟨rfl, by omega⟩)
    · have e : rdA n (some (bs.drop a0)) = (lb ((bs.drop a0).take n), some (bs.drop (a0 + n))) := by simp only [rdA]; rw [if_neg hlt, List.drop_drop]
      show Calls _ _ _ _ fun e w' => e = .returned (V (rdA n (some (bs.drop a0))).1) ∧ CutS w' r v bs (rdA n (some (bs.drop a0))).2 ∧ But r w w'
      rw [e]
      rw [List.length_drop] at hlt
      exact qNumber_ok r v bs a0 n w hb (by omega) hs hl hn hn1

theorem rdTA_no {st : Option (List UInt8)} {n : Nat} (h : rdA 2 st = (n, none)) : rdTA st = ([], none) ∧ n = 0 := by
  cases st with
  | none => simp only [rdA, Prod.mk.injEq] at h; exact ⟨rfl, h.1.symm⟩
  | some bs =>
    simp only [rdA, rdTA] at h ⊢
    by_cases h2 : bs.length < 2
    · rw [if_pos h2] at h ⊢
      simp only [Prod.mk.injEq] at h
      exact ⟨rfl, h.1.symm⟩
    · rw [if_neg h2] at h
      simp at h
theorem rdTA_yes {st : Option (List UInt8)} {n : Nat} {b2 : List UInt8} (h : rdA 2 st = (n, some b2)) : rdTA st = if b2.length < n then ([], none) else (b2.take n, some (b2.drop n)) := by
  cases st with
  | none => simp [rdA] at h
  | some bs =>
    simp only [rdA, rdTA] at h ⊢
    by_cases h2 : bs.length < 2
    · rw [if_pos h2] at h
      simp at h
    · rw [if_neg h2] at h ⊢
      simp only [Prod.mk.injEq, Option.some.injEq] at h
      obtain ⟨rfl, rfl⟩ := h
      rfl

set_option maxRecDepth 20000 in
set_option maxHeartbeats 3200000 in
theorem qText_S {r : Nat} {v : Value} {bs : List UInt8} {st : Option (List UInt8)} {w : World} (h : CutS w r v bs st) (hl : (bs.length : Int) ≤ 140737488351232) :
    Calls Tryd.prog 55 #[.pointer (some ⟨r, 0, none⟩)] w fun e w' => e = .returned (.string ⟨(rdTA st).1.toArray⟩) ∧ CutS w' r v bs (rdTA st).2 ∧ But r w w' := by
  obtain ⟨ao, cap, rfl, _⟩ := id h.sl
  obtain ⟨N, hNN⟩ : ∃ N, bs.length = N := ⟨_, rfl⟩
  have HN : Hid (bs.length = N) := hNN
  have hN := qNumber_S h hl 2 (by omega) (by omega)
  have hn2 := rdA_lt 2 st
  rcases hq : rdA 2 st with ⟨n, st2⟩
  rw [hq] at hN hn2
  simp only at hN hn2
  have Hq : Hid (rdA 2 st = (n, st2)) := hq
  have hnI : (n : Int) ≤ 65535 := by omega
  have hn0 : (0 : Int) ≤ (n : Int) := by omega
  rw [hNN] at hl hN ⊢
  clear hq hn2 h hNN
  go_enter Tryd.func55, Tryd.ntmps55
  go_wp2_with fail
  refine hN.mono ?_
  rintro e w1 ⟨rfl, C1, g1⟩
  clear hN
  obtain ⟨⟨a1, s1, b1, ha, hst⟩, sl1⟩ := C1
  have HA : Hid (a1 ≤ bs.length) := ha
  rw [HN.out] at ha
  have haI : (a1 : Int) ≤ (N : Int) := by omega
  have ha0 : (0 : Int) ≤ (a1 : Int) := by omega
  have HSt : Hid (st2 = if s1 then none else some (bs.drop a1)) := hst
  clear ha hst
  obtain ⟨c0, c1, c2⟩ := b1.c3
  by_cases hbad : s1 = true ∨ s1 = false ∧ (N : Int) - (a1 : Int) < (n : Int)
  · have Hf : Hid (rdTA st = ([], none)) := by
      show rdTA st = ([], none)
      have hs := HSt.out
      rcases hbad with rfl | ⟨rfl, h2⟩
      · exact (rdTA_no (by rw [Hq.out, hs]; rfl)).1
      · rw [rdTA_yes (b2 := bs.drop a1) (by rw [Hq.out, hs]; rfl), if_pos (by rw [List.length_drop]; have := HN.out; omega)]
    rcases hbad with rfl | ⟨rfl, h2⟩
    all_goals
      go_wp2_with fail
      go_quiet (fail)
      obtain ⟨w2, hw2⟩ : ∃ w2, w1.drewN nq = w2 := ⟨_, rfl⟩
      have u2 : Up w1 w2 := by rw [← hw2]; exact up_drewN _ _
      have b2 := b1.up u2
      have sl2 := sl1.up u2
      have D := CutS.stop b2 HA.out sl2
      have g2 := (g1.trans (But.of_up r u2)).trans (But.setCell w2 r 2 (.bool true))
      rw [hw2]
      clear hw2 c0 c1 c2 b1 sl1
      obtain ⟨c0, c1, c2⟩ := b2.c3
      have cf := b2.frozen
      have cl := b2.lt
      have HD := show Hid _ from D
      have Hg := show Hid _ from g2
      clear D g2 g1 sl2 b2 u2
      go_wp2
      go_ret
      exact ⟨by rw [Hf.out]; rfl, by rw [Hf.out]; exact HD.out, Hg.out⟩
  · obtain rfl : s1 = false := by
      cases s1 with
      | true => exact absurd (.inl rfl) hbad
      | false => rfl
    have h2 : ¬ (N : Int) - (a1 : Int) < (n : Int) := fun h => hbad (.inr ⟨rfl, h⟩)
    have h3 : (a1 : Int) + (n : Int) ≤ (N : Int) := by omega
    have Hf : Hid (rdTA st = ((bs.drop a1).take n, some (bs.drop (a1 + n)))) := by
      show rdTA st = _
      have hs := HSt.out
      rw [rdTA_yes (b2 := bs.drop a1) (by rw [Hq.out, hs]; rfl), if_neg (by rw [List.length_drop]; have := HN.out; omega), List.drop_drop]
    obtain ⟨v3, sl3, hcut, _, _⟩ := sl_cutP sl1 a1 (a1 + n) (by omega) (by have := HN.out; omega)
    rw [show a1 + n - a1 = n by omega] at sl3
    rw [show ((a1 + n : Nat) : Int) = (a1 : Int) + (n : Int) by omega] at hcut
    obtain ⟨a3, q3, rfl, _⟩ := id sl3
    obtain ⟨M, hM⟩ : ∃ M, ((bs.drop a1).take n).length = M := ⟨_, rfl⟩
    rw [hM] at hcut sl3
    have hwrap : IntKind.i64.wrap ((a1 : Int) + (n : Int)) = (a1 : Int) + (n : Int) := by rw [IntKind.wrap_i64]; omega
    have hcut2 : ∀ u, (Instr.slice 30 (.slice ao N cap) (some (.int .i64 (a1 : Int))) (some (.int .i64 (IntKind.i64.wrap ((a1 : Int) + (n : Int))))) none).run Tryd.prog u = .ok (.slice a3 M q3) u := by rw [hwrap]; exact hcut
    clear hwrap
    clear hM hbad
    go_wp2_with fail
    go_quiet (fail)
    obtain ⟨w2, hw2⟩ : ∃ w2, w1.drewN nq = w2 := ⟨_, rfl⟩
    have u2 : Up w1 w2 := by rw [← hw2]; exact up_drewN _ _
    have b2 := b1.up u2
    have sl2 := sl1.up u2
    have hstr := fun q => sl_stringP (sl3.up (u2.trans (up_drewN w2 q)))
    obtain ⟨S, hS⟩ : ∃ S : ByteArray, (⟨((bs.drop a1).take n).toArray⟩ : ByteArray) = S := ⟨_, rfl⟩
    rw [hS] at hstr
    have HSS := show Hid _ from hS
    rw [hw2]
    clear hw2 c0 c1 c2 b1 sl1 hS
    obtain ⟨c0, c1, c2⟩ := b2.c3
    go_wp2_with fail
    go_quiet (fail)
    obtain ⟨w3, hw3⟩ : ∃ w3, w2.drewN nq = w3 := ⟨_, rfl⟩
    have u3 : Up w2 w3 := by rw [← hw3]; exact up_drewN _ _
    have b3 := b2.up u3
    have sl3' := sl2.up u3
    rw [hw3]
    clear hw3 c0 c1 c2 b2 sl2 hstr hcut hcut2
    obtain ⟨c0, c1, c2⟩ := b3.c3
    have cf := b3.frozen
    have cl := b3.lt
    have D := CutS.put b3 sl3' (a1 + n) (by have := HN.out; omega)
    have g3 := ((g1.trans (But.of_up r u2)).trans (But.of_up r u3)).trans (But.setCell w3 r 1 (.int .i64 ((a1 + n : Nat) : Int)))
    rw [show ((a1 + n : Nat) : Int) = (a1 : Int) + (n : Int) by omega] at D g3
    have HD := show Hid _ from D
    have Hg := show Hid _ from g3
    clear D g3 g1 sl3 sl3' b3 u2 u3
    go_wp2
    go_ret
    exact ⟨by rw [Hf.out]; exact congrArg (fun s => Ending.returned (Value.string s)) HSS.out.symm, by rw [Hf.out]; simpa using HD.out, Hg.out⟩
theorem qPolicy_1 (x y : Nat) (w : World) : Calls Tryd.prog 56 #[.int .i64 1, V x, V y] w fun e w' => e = .returned (.agg #[.int .i64 1, V x, V y, Z, Z]) ∧ Up w w' := by
  go_enter Tryd.func56, Tryd.ntmps56
  go_wp2
  exact bodyPost_ret (v := .agg #[.int .i64 1, V x, V y, Z, Z]) (by simp [results, Tryd.results56, go_sem]) rfl ⟨rfl, Up.alloc _ _⟩
theorem qPolicy_2 (k : Int) (x y : Nat) (h : (k == 1) = false) (w : World) : Calls Tryd.prog 56 #[.int .i64 k, V x, V y] w fun e w' => e = .returned (.agg #[.int .i64 k, Z, Z, V x, V y]) ∧ Up w w' := by
  go_enter Tryd.func56, Tryd.ntmps56
  go_wp2
  exact bodyPost_ret (v := .agg #[.int .i64 k, Z, Z, V x, V y]) (by simp [results, Tryd.results56, go_sem]) rfl ⟨rfl, Up.alloc _ _⟩
end Go.Proofs.YtooclofdljampaaDoor

set_option linter.unusedVariables false
set_option linter.unusedSimpArgs false
namespace Go.Proofs.YtooclofdljampaaDoor
open Go Go.RowKit

theorem CutS.otherI {w : World} {r k : Nat} {v : Value} {b : List UInt8} {st : Option (List UInt8)} (h : CutS w r v b st) (hn : r < k) (i : Nat) (x : Value) : CutS (w.setCell ⟨k, i, none⟩ x) r v b st := by
  obtain ⟨⟨a, s, hb, h1, h2⟩, hs⟩ := h
  refine ⟨⟨a, s, hb.other (by omega) i x, h1, h2⟩, ?_⟩
  obtain ⟨ao, cap, rfl, h3, h4, hx⟩ := hs
  refine ⟨ao, cap, rfl, h3, h4, fun hne => ?_⟩
  obtain ⟨b, o, rfl, hlt, ha⟩ := hx hne
  refine ⟨b, o, rfl, hlt, fun j hj => ?_⟩
  rw [World.cell?_of_block (heap_setCell_other _ ⟨k, i, none⟩ _ _ (show b ≠ k by omega))]
  exact ha j hj
theorem CutS.short {w : World} {r : Nat} {v : Value} {b : List UInt8} {st : Option (List UInt8)} (h : CutS w r v b st) : w.cell? ⟨r, 2, none⟩ = some (.bool st.isNone) := by
  obtain ⟨⟨a, s, hb, h1, h2⟩, hs⟩ := h
  subst h2
  have := hb.cell 2
  rw [this]
  cases s <;> rfl
/-- What the reference's entry keeps. -/
structure Tq (w0 w : World) (r : Nat) (v : Value) (b : List UInt8) (st : Option (List UInt8)) (k : Nat) (cs : Array Value) : Prop where
  cut : CutS w r v b st
  but : But r w0 w
  out : ∃ q : Array Value, q.size = 9 ∧ Box w w0.heap.size q
  bx : Box w k cs
  lk : w0.heap.size < k
  lr : r < w0.heap.size
theorem Tq.read {w0 w w' : World} {r : Nat} {v : Value} {b : List UInt8} {st st' : Option (List UInt8)} {k : Nat} {cs : Array Value} (h : Tq w0 w r v b st k cs) (hr : CutS w' r v b st') (hb : But r w w') : Tq w0 w' r v b st' k cs := by
  obtain ⟨q, hq, ho⟩ := h.out
  exact ⟨hr, h.but.trans hb, ⟨q, hq, ho.but hb (by have := h.lr; omega)⟩, h.bx.but hb (by have := h.lk; have := h.lr; omega), h.lk, h.lr⟩
theorem Tq.up {w0 w w' : World} {r : Nat} {v : Value} {b : List UInt8} {st : Option (List UInt8)} {k : Nat} {cs : Array Value} (h : Tq w0 w r v b st k cs) (u : Up w w') : Tq w0 w' r v b st k cs := by
  obtain ⟨q, hq, ho⟩ := h.out
  exact ⟨h.cut.up u, h.but.trans (But.of_up r u), ⟨q, hq, ho.up u⟩, h.bx.up u, h.lk, h.lr⟩
theorem Tq.set {w0 w : World} {r : Nat} {v : Value} {b : List UInt8} {st : Option (List UInt8)} {k : Nat} {cs : Array Value} (h : Tq w0 w r v b st k cs) (i : Nat) (x : Value) : Tq w0 (w.setCell ⟨k, i, none⟩ x) r v b st k (cs.setIfInBounds i x) := by
  obtain ⟨q, hq, ho⟩ := h.out
  have := h.lk
  have := h.lr
  exact ⟨h.cut.otherI (by omega) i x, h.but.setI (by omega) i x, ⟨q, hq, ho.other (by omega) i x⟩, h.bx.set i x, h.lk, h.lr⟩
theorem Tq.fin {w0 w : World} {r : Nat} {v : Value} {b : List UInt8} {st : Option (List UInt8)} {k : Nat} {cs : Array Value} (h : Tq w0 w r v b st k cs) (a0 a1 a2 a3 a4 a5 a6 a7 a8 : Value) :
    ∃ w', w' = ((((((((w.setCell ⟨w0.heap.size, 0, none⟩ a0).setCell ⟨w0.heap.size, 1, none⟩ a1).setCell ⟨w0.heap.size, 2, none⟩ a2).setCell ⟨w0.heap.size, 3, none⟩ a3).setCell ⟨w0.heap.size, 4, none⟩ a4).setCell ⟨w0.heap.size, 5, none⟩ a5).setCell ⟨w0.heap.size, 6, none⟩ a6).setCell ⟨w0.heap.size, 7, none⟩ a7).setCell ⟨w0.heap.size, 8, none⟩ a8 ∧
      CutS w' r v b st ∧ But r w0 w' ∧ Box w' w0.heap.size #[a0, a1, a2, a3, a4, a5, a6, a7, a8] := by
  refine ⟨_, rfl, ?_, ?_, ?_⟩
  · have := h.lr
    exact ((((((((h.cut.otherI this 0 a0).otherI this 1 a1).otherI this 2 a2).otherI this 3 a3).otherI this 4 a4).otherI this 5 a5).otherI this 6 a6).otherI this 7 a7).otherI this 8 a8
  · have := Nat.le_refl w0.heap.size
    exact ((((((((h.but.setI this 0 a0).setI this 1 a1).setI this 2 a2).setI this 3 a3).setI this 4 a4).setI this 5 a5).setI this 6 a6).setI this 7 a7).setI this 8 a8
  · obtain ⟨q, hq, ho⟩ := h.out
    obtain ⟨L⟩ := q
    match L, hq with
    | [_, _, _, _, _, _, _, _, _], _ => exact ho.set9 _ _ _ _ _ _ _ _ _
theorem Tq.oc {w0 w : World} {r : Nat} {v : Value} {b : List UInt8} {st : Option (List UInt8)} {k : Nat} {cs : Array Value} (h : Tq w0 w r v b st k cs) :
    ∃ p0 p1 p2 p3 p4 p5 p6 p7 p8, Box w w0.heap.size #[p0, p1, p2, p3, p4, p5, p6, p7, p8] := by
  obtain ⟨q, hq, ho⟩ := h.out
  obtain ⟨L⟩ := q
  match L, hq with
  | [p0, p1, p2, p3, p4, p5, p6, p7, p8], _ => exact ⟨p0, p1, p2, p3, p4, p5, p6, p7, p8, ho⟩
theorem Tq.start {w : World} {r : Nat} {v : Value} {b : List UInt8} {st : Option (List UInt8)} (h : CutS w r v b st) :
    Tq w ((w.alloc (.cells ZE 50)).alloc (.cells ZE 50)) r v b st (w.heap.size + 1) ZE := by
  have u : Up w ((w.alloc (.cells ZE 50)).alloc (.cells ZE 50)) := (Up.alloc _ _).trans (Up.alloc _ _)
  have hr : r < w.heap.size := by obtain ⟨⟨a, s, hb, _⟩, _⟩ := h; exact hb.lt
  exact ⟨h.up u, But.of_up r u, ⟨ZE, rfl, (Box.new _ _ _).alloc _⟩, Box.newAt (by simp), by omega, hr⟩

set_option maxRecDepth 20000 in
set_option maxHeartbeats 3200000 in
theorem qEntry_short {w : World} {r : Nat} {v : Value} {b : List UInt8} {st s1 : Option (List UInt8)} {key : List UInt8} {k : Nat} (h : CutS w r v b st) (hl : (b.length : Int) ≤ 140737488351232) (e1 : rdTA st = (key, s1)) (e2 : rdA 1 s1 = (k, none)) :
    Calls Tryd.prog 40 #[.pointer (some ⟨r, 0, none⟩)] w fun e w' => (∃ y : Ent, e = .returned (.tuple #[EV y, .int .i64 2])) ∧ But r w w' := by
  have hb : (k : Int) ≤ 255 := by have := rdA_lt 1 s1; rw [e2] at this; simp only at this; omega
  have hb2 : IntKind.i64.wrap (k : Int) = (k : Int) := by have := IntKind.wrap_i64 (k : Int); omega
  have k1 : ∀ u, CutS u r v b st → Calls Tryd.prog 55 #[.pointer (some ⟨r, 0, none⟩)] u fun e w' => e = .returned (.string ⟨key.toArray⟩) ∧ CutS w' r v b s1 ∧ But r u w' := fun u hu => by
    have := qText_S hu hl; rw [e1] at this; exact this
  have k2 : ∀ u, CutS u r v b s1 → Calls Tryd.prog 39 #[.pointer (some ⟨r, 0, none⟩), .int .i64 1] u fun e w' => e = .returned (V k) ∧ CutS w' r v b none ∧ But r u w' := fun u hu => by
    have := qNumber_S hu hl 1 (by omega) (by omega); rw [e2] at this; exact this
  clear e1 e2
  have T0 := Tq.start h
  go_enter Tryd.func40, Tryd.ntmps40
  go_upto_region 2 with fail
  generalize (w.alloc (.cells ZE 50)).alloc (.cells ZE 50) = w0 at *
  obtain ⟨K, hK⟩ : ∃ K, w.heap.size + 1 = K := ⟨_, rfl⟩
  rw [hK] at T0
  try rw [hK]
  go_wp2_with fail
  refine (k1 _ T0.cut).mono ?_
  rintro e w1 ⟨rfl, h1, g1⟩
  have T1 := T0.read h1 g1
  obtain ⟨c0, c1, c2, c3, c4, c5, c6, c7, c8⟩ := T1.bx.c9
  have f0 := T1.bx.frozen
  have P1 := T1.set 0 (.string ⟨key.toArray⟩)
  clear h1 g1 T0 T1 k1
  go_wp2_with fail
  refine (k2 _ P1.cut).mono ?_
  rintro e w2 ⟨rfl, h1, g1⟩
  have T2 := P1.read h1 g1
  clear h1 g1 P1 k2 f0
  clear c0 c1 c2 c3 c4 c5 c6 c7 c8
  have hsh : _ := T2.cut.short
  simp only [Option.isNone_none] at hsh
  obtain ⟨c0, c1, c2, c3, c4, c5, c6, c7, c8⟩ := T2.bx.c9
  obtain ⟨p0, p1, p2, p3, p4, p5, p6, p7, p8, ho⟩ := T2.oc
  have f1 := ho.frozen
  obtain ⟨o0, o1, o2, o3, o4, o5, o6, o7, o8⟩ := ho.c9
  obtain ⟨wf, hwf, r1, r2, r3⟩ := T2.fin (.string ⟨key.toArray⟩) (.int .i64 0) (V 0) (V 0) (V 0) (V 0) (V 0) (V 0) (V 0)
  clear T2
  go_wp2
  generalize hq : World.setCell _ _ _ = wq
  obtain rfl : wq = wf := hq.symm.trans hwf.symm
  clear hq hwf o0 o1 o2 o3 o4 o5 o6 o7 o8 f1 ho
  clear c0 c1 c2 c3 c4 c5 c6 c7 c8
  obtain ⟨d0, d1, d2, d3, d4, d5, d6, d7, d8⟩ := r3.c9
  exact bodyPost_ret (v := .tuple #[EV (⟨key.toArray⟩, ⟨0, 0, 0, 0, 0⟩, ⟨0, 0, 0⟩), .int .i64 2]) (by simp [results, Tryd.results40, go_sem, d0, d1, d2, d3, d4, d5, d6, d7, d8]) rfl ⟨⟨_, rfl⟩, r2⟩

set_option maxRecDepth 20000 in
set_option maxHeartbeats 3200000 in
theorem qEntry_form {w : World} {r : Nat} {v : Value} {b : List UInt8} {st s1 : Option (List UInt8)} {key : List UInt8} {k : Nat} {b2 : List UInt8} (h : CutS w r v b st) (hl : (b.length : Int) ≤ 140737488351232) (e1 : rdTA st = (key, s1)) (e2 : rdA 1 s1 = (k, some b2)) (n1 : ((k : Int) != 1) = true) (n2 : ((k : Int) != 2) = true) :
    Calls Tryd.prog 40 #[.pointer (some ⟨r, 0, none⟩)] w fun e w' => (∃ y : Ent, e = .returned (.tuple #[EV y, .int .i64 3])) ∧ But r w w' := by
  have hb : (k : Int) ≤ 255 := by have := rdA_lt 1 s1; rw [e2] at this; simp only at this; omega
  have hb2 : IntKind.i64.wrap (k : Int) = (k : Int) := by have := IntKind.wrap_i64 (k : Int); omega
  have k1 : ∀ u, CutS u r v b st → Calls Tryd.prog 55 #[.pointer (some ⟨r, 0, none⟩)] u fun e w' => e = .returned (.string ⟨key.toArray⟩) ∧ CutS w' r v b s1 ∧ But r u w' := fun u hu => by
    have := qText_S hu hl; rw [e1] at this; exact this
  have k2 : ∀ u, CutS u r v b s1 → Calls Tryd.prog 39 #[.pointer (some ⟨r, 0, none⟩), .int .i64 1] u fun e w' => e = .returned (V k) ∧ CutS w' r v b (some b2) ∧ But r u w' := fun u hu => by
    have := qNumber_S hu hl 1 (by omega) (by omega); rw [e2] at this; exact this
  clear e1 e2
  have T0 := Tq.start h
  go_enter Tryd.func40, Tryd.ntmps40
  go_upto_region 2 with fail
  generalize (w.alloc (.cells ZE 50)).alloc (.cells ZE 50) = w0 at *
  obtain ⟨K, hK⟩ : ∃ K, w.heap.size + 1 = K := ⟨_, rfl⟩
  rw [hK] at T0
  try rw [hK]
  go_wp2_with fail
  refine (k1 _ T0.cut).mono ?_
  rintro e w1 ⟨rfl, h1, g1⟩
  have T1 := T0.read h1 g1
  obtain ⟨c0, c1, c2, c3, c4, c5, c6, c7, c8⟩ := T1.bx.c9
  have f0 := T1.bx.frozen
  have P1 := T1.set 0 (.string ⟨key.toArray⟩)
  clear h1 g1 T0 T1 k1
  go_wp2_with fail
  refine (k2 _ P1.cut).mono ?_
  rintro e w2 ⟨rfl, h1, g1⟩
  have T2 := P1.read h1 g1
  clear h1 g1 P1 k2 f0
  clear c0 c1 c2 c3 c4 c5 c6 c7 c8
  have hsh : _ := T2.cut.short
  simp only [Option.isNone_some] at hsh
  obtain ⟨c0, c1, c2, c3, c4, c5, c6, c7, c8⟩ := T2.bx.c9
  obtain ⟨p0, p1, p2, p3, p4, p5, p6, p7, p8, ho⟩ := T2.oc
  have f1 := ho.frozen
  obtain ⟨o0, o1, o2, o3, o4, o5, o6, o7, o8⟩ := ho.c9
  obtain ⟨wf, hwf, r1, r2, r3⟩ := T2.fin (.string ⟨key.toArray⟩) (.int .i64 0) (V 0) (V 0) (V 0) (V 0) (V 0) (V 0) (V 0)
  clear T2
  go_wp2
  generalize hq : World.setCell _ _ _ = wq
  obtain rfl : wq = wf := hq.symm.trans hwf.symm
  clear hq hwf o0 o1 o2 o3 o4 o5 o6 o7 o8 f1 ho
  clear c0 c1 c2 c3 c4 c5 c6 c7 c8
  obtain ⟨d0, d1, d2, d3, d4, d5, d6, d7, d8⟩ := r3.c9
  exact bodyPost_ret (v := .tuple #[EV (⟨key.toArray⟩, ⟨0, 0, 0, 0, 0⟩, ⟨0, 0, 0⟩), .int .i64 3]) (by simp [results, Tryd.results40, go_sem, d0, d1, d2, d3, d4, d5, d6, d7, d8]) rfl ⟨⟨_, rfl⟩, r2⟩

set_option maxRecDepth 20000 in
set_option maxHeartbeats 3200000 in
theorem qEntry_flow {w : World} {r : Nat} {v : Value} {b : List UInt8} {st s1 : Option (List UInt8)} {key : List UInt8} {b2 : List UInt8} {s3 s4 s5 : Option (List UInt8)} {x y z : Nat} (h : CutS w r v b st) (hl : (b.length : Int) ≤ 140737488351232) (e1 : rdTA st = (key, s1)) (e2 : rdA 1 s1 = (1, some b2)) (e3 : rdA 8 (some b2) = (x, s3)) (e4 : rdA 8 s3 = (y, s4)) (e5 : rdA 8 s4 = (z, s5)) :
    Calls Tryd.prog 40 #[.pointer (some ⟨r, 0, none⟩)] w fun e w' => (s5 = none ∧ (∃ y : Ent, e = .returned (.tuple #[EV y, .int .i64 2])) ∨ (∃ bz, s5 = some bz ∧ e = .returned (.tuple #[EV (⟨key.toArray⟩, ⟨1, x, y, 0, 0⟩, ⟨z, 0, 0⟩), .int .i64 0]) ∧ CutS w' r v b s5)) ∧ But r w w' := by
  have k1 : ∀ u, CutS u r v b st → Calls Tryd.prog 55 #[.pointer (some ⟨r, 0, none⟩)] u fun e w' => e = .returned (.string ⟨key.toArray⟩) ∧ CutS w' r v b s1 ∧ But r u w' := fun u hu => by
    have := qText_S hu hl; rw [e1] at this; exact this
  have k2 : ∀ u, CutS u r v b s1 → Calls Tryd.prog 39 #[.pointer (some ⟨r, 0, none⟩), .int .i64 1] u fun e w' => e = .returned (V 1) ∧ CutS w' r v b (some b2) ∧ But r u w' := fun u hu => by
    have := qNumber_S hu hl 1 (by omega) (by omega); rw [e2] at this; exact this
  have k3 : ∀ u, CutS u r v b (some b2) → Calls Tryd.prog 39 #[.pointer (some ⟨r, 0, none⟩), .int .i64 8] u fun e w' => e = .returned (V x) ∧ CutS w' r v b s3 ∧ But r u w' := fun u hu => by
    have := qNumber_S hu hl 8 (by omega) (by omega); rw [e3] at this; exact this
  have k4 : ∀ u, CutS u r v b s3 → Calls Tryd.prog 39 #[.pointer (some ⟨r, 0, none⟩), .int .i64 8] u fun e w' => e = .returned (V y) ∧ CutS w' r v b s4 ∧ But r u w' := fun u hu => by
    have := qNumber_S hu hl 8 (by omega) (by omega); rw [e4] at this; exact this
  have k5 : ∀ u, CutS u r v b s4 → Calls Tryd.prog 39 #[.pointer (some ⟨r, 0, none⟩), .int .i64 8] u fun e w' => e = .returned (V z) ∧ CutS w' r v b s5 ∧ But r u w' := fun u hu => by
    have := qNumber_S hu hl 8 (by omega) (by omega); rw [e5] at this; exact this
  clear e1 e2 e3 e4 e5
  have T0 := Tq.start h
  go_enter Tryd.func40, Tryd.ntmps40
  go_upto_region 2 with fail
  generalize (w.alloc (.cells ZE 50)).alloc (.cells ZE 50) = w0 at *
  obtain ⟨K, hK⟩ : ∃ K, w.heap.size + 1 = K := ⟨_, rfl⟩
  rw [hK] at T0
  try rw [hK]
  go_wp2_with fail
  refine (k1 _ T0.cut).mono ?_
  rintro e w1 ⟨rfl, h1, g1⟩
  have T1 := T0.read h1 g1
  obtain ⟨c0, c1, c2, c3, c4, c5, c6, c7, c8⟩ := T1.bx.c9
  have f0 := T1.bx.frozen
  have P1 := T1.set 0 (.string ⟨key.toArray⟩)
  clear h1 g1 T0 T1 k1
  go_wp2_with fail
  refine (k2 _ P1.cut).mono ?_
  rintro e w2 ⟨rfl, h1, g1⟩
  have T2 := P1.read h1 g1
  clear h1 g1 P1 k2 f0
  clear c0 c1 c2 c3 c4 c5 c6 c7 c8
  have hsh : _ := T2.cut.short
  simp only [Option.isNone_some] at hsh
  go_wp2_with fail
  refine (k3 _ T2.cut).mono ?_
  rintro e w3 ⟨rfl, h3, g3⟩
  have T3 := T2.read h3 g3
  clear h3 g3 T2 hsh
  go_wp2_with fail
  refine (k4 _ T3.cut).mono ?_
  rintro e w4 ⟨rfl, h4, g4⟩
  have T4 := T3.read h4 g4
  clear h4 g4 T3
  go_wp2_with fail
  refine (qPolicy_1 x y _).mono ?_
  rintro e w8 ⟨rfl, u8⟩
  have P8 := T4.up u8
  obtain ⟨c0, c1, c2, c3, c4, c5, c6, c7, c8⟩ := P8.bx.c9
  have f0 := P8.bx.frozen
  have P9 := (((((P8.set 1 (.int .i64 1)).set 2 (V x)).set 3 (V y)).set 4 (V 0)).set 5 (V 0))
  clear T4 u8 P8
  go_wp2_with fail
  refine (k5 _ P9.cut).mono ?_
  rintro e w15 ⟨rfl, h5, g5⟩
  have T5 := P9.read h5 g5
  clear h5 g5 P9 f0
  clear c0 c1 c2 c3 c4 c5 c6 c7 c8
  obtain ⟨c0, c1, c2, c3, c4, c5, c6, c7, c8⟩ := T5.bx.c9
  have f0 := T5.bx.frozen
  have Q5 := T5.set 6 (V z)
  clear T5
  cases s5 with
  | none =>
    go_upto_region 15 with fail
    clear c0 c1 c2 c3 c4 c5 c6 c7 c8
    clear f0
    generalize World.setCell _ _ _ = wz at Q5 ⊢
    have PF : Tq w wz r v b none K #[.string ⟨key.toArray⟩, .int .i64 1, V x, V y, V 0, V 0, V z, V 0, V 0] := Q5
    clear Q5
    have hsh : _ := PF.cut.short
    simp only [Option.isNone_none] at hsh
    obtain ⟨c0, c1, c2, c3, c4, c5, c6, c7, c8⟩ := PF.bx.c9
    obtain ⟨p0, p1, p2, p3, p4, p5, p6, p7, p8, ho⟩ := PF.oc
    have f1 := ho.frozen
    obtain ⟨o0, o1, o2, o3, o4, o5, o6, o7, o8⟩ := ho.c9
    obtain ⟨wf, hwf, r1, r2, r3⟩ := PF.fin (.string ⟨key.toArray⟩) (.int .i64 1) (V x) (V y) (V 0) (V 0) (V z) (V 0) (V 0)
    clear PF
    go_wp2
    generalize hq : World.setCell _ _ _ = wq
    obtain rfl : wq = wf := hq.symm.trans hwf.symm
    clear hq hwf o0 o1 o2 o3 o4 o5 o6 o7 o8 f1 ho
    clear c0 c1 c2 c3 c4 c5 c6 c7 c8
    obtain ⟨d0, d1, d2, d3, d4, d5, d6, d7, d8⟩ := r3.c9
    exact bodyPost_ret (v := .tuple #[EV (⟨key.toArray⟩, ⟨1, x, y, 0, 0⟩, ⟨z, 0, 0⟩), .int .i64 2]) (by simp [results, Tryd.results40, go_sem, d0, d1, d2, d3, d4, d5, d6, d7, d8]) rfl ⟨⟨_, _, _, rfl⟩, r2⟩
  | some bz =>
    go_upto_region 15 with fail
    clear c0 c1 c2 c3 c4 c5 c6 c7 c8
    clear f0
    generalize World.setCell _ _ _ = wz at Q5 ⊢
    have PF : Tq w wz r v b (some bz) K #[.string ⟨key.toArray⟩, .int .i64 1, V x, V y, V 0, V 0, V z, V 0, V 0] := Q5
    clear Q5
    have hsh : _ := PF.cut.short
    simp only [Option.isNone_some] at hsh
    obtain ⟨c0, c1, c2, c3, c4, c5, c6, c7, c8⟩ := PF.bx.c9
    obtain ⟨p0, p1, p2, p3, p4, p5, p6, p7, p8, ho⟩ := PF.oc
    have f1 := ho.frozen
    obtain ⟨o0, o1, o2, o3, o4, o5, o6, o7, o8⟩ := ho.c9
    obtain ⟨wf, hwf, r1, r2, r3⟩ := PF.fin (.string ⟨key.toArray⟩) (.int .i64 1) (V x) (V y) (V 0) (V 0) (V z) (V 0) (V 0)
    clear PF
    go_wp2
    generalize hq : World.setCell _ _ _ = wq
    obtain rfl : wq = wf := hq.symm.trans hwf.symm
    clear hq hwf o0 o1 o2 o3 o4 o5 o6 o7 o8 f1 ho
    clear c0 c1 c2 c3 c4 c5 c6 c7 c8
    obtain ⟨d0, d1, d2, d3, d4, d5, d6, d7, d8⟩ := r3.c9
    exact bodyPost_ret (v := .tuple #[EV (⟨key.toArray⟩, ⟨1, x, y, 0, 0⟩, ⟨z, 0, 0⟩), .int .i64 0]) (by simp [results, Tryd.results40, go_sem, d0, d1, d2, d3, d4, d5, d6, d7, d8]) rfl ⟨.inr ⟨_, rfl, rfl, r1⟩, r2⟩

set_option maxRecDepth 20000 in
set_option maxHeartbeats 3200000 in
theorem qEntry_grid {w : World} {r : Nat} {v : Value} {b : List UInt8} {st s1 : Option (List UInt8)} {key : List UInt8} {b2 : List UInt8} {s3 s4 s5 s6 : Option (List UInt8)} {x y z n : Nat} (h : CutS w r v b st) (hl : (b.length : Int) ≤ 140737488351232) (e1 : rdTA st = (key, s1)) (e2 : rdA 1 s1 = (2, some b2)) (e3 : rdA 8 (some b2) = (x, s3)) (e4 : rdA 8 s3 = (y, s4)) (e5 : rdA 8 s4 = (z, s5)) (e6 : rdA 8 s5 = (n, s6)) :
    Calls Tryd.prog 40 #[.pointer (some ⟨r, 0, none⟩)] w fun e w' => (s6 = none ∧ (∃ y : Ent, e = .returned (.tuple #[EV y, .int .i64 2])) ∨ (∃ bz, s6 = some bz ∧ e = .returned (.tuple #[EV (⟨key.toArray⟩, ⟨2, 0, 0, x, y⟩, ⟨0, z, n⟩), .int .i64 0]) ∧ CutS w' r v b s6)) ∧ But r w w' := by
  have k1 : ∀ u, CutS u r v b st → Calls Tryd.prog 55 #[.pointer (some ⟨r, 0, none⟩)] u fun e w' => e = .returned (.string ⟨key.toArray⟩) ∧ CutS w' r v b s1 ∧ But r u w' := fun u hu => by
    have := qText_S hu hl; rw [e1] at this; exact this
  have k2 : ∀ u, CutS u r v b s1 → Calls Tryd.prog 39 #[.pointer (some ⟨r, 0, none⟩), .int .i64 1] u fun e w' => e = .returned (V 2) ∧ CutS w' r v b (some b2) ∧ But r u w' := fun u hu => by
    have := qNumber_S hu hl 1 (by omega) (by omega); rw [e2] at this; exact this
  have k3 : ∀ u, CutS u r v b (some b2) → Calls Tryd.prog 39 #[.pointer (some ⟨r, 0, none⟩), .int .i64 8] u fun e w' => e = .returned (V x) ∧ CutS w' r v b s3 ∧ But r u w' := fun u hu => by
    have := qNumber_S hu hl 8 (by omega) (by omega); rw [e3] at this; exact this
  have k4 : ∀ u, CutS u r v b s3 → Calls Tryd.prog 39 #[.pointer (some ⟨r, 0, none⟩), .int .i64 8] u fun e w' => e = .returned (V y) ∧ CutS w' r v b s4 ∧ But r u w' := fun u hu => by
    have := qNumber_S hu hl 8 (by omega) (by omega); rw [e4] at this; exact this
  have k5 : ∀ u, CutS u r v b s4 → Calls Tryd.prog 39 #[.pointer (some ⟨r, 0, none⟩), .int .i64 8] u fun e w' => e = .returned (V z) ∧ CutS w' r v b s5 ∧ But r u w' := fun u hu => by
    have := qNumber_S hu hl 8 (by omega) (by omega); rw [e5] at this; exact this
  have k6 : ∀ u, CutS u r v b s5 → Calls Tryd.prog 39 #[.pointer (some ⟨r, 0, none⟩), .int .i64 8] u fun e w' => e = .returned (V n) ∧ CutS w' r v b s6 ∧ But r u w' := fun u hu => by
    have := qNumber_S hu hl 8 (by omega) (by omega); rw [e6] at this; exact this
  clear e1 e2 e3 e4 e5 e6
  have T0 := Tq.start h
  go_enter Tryd.func40, Tryd.ntmps40
  go_upto_region 2 with fail
  generalize (w.alloc (.cells ZE 50)).alloc (.cells ZE 50) = w0 at *
  obtain ⟨K, hK⟩ : ∃ K, w.heap.size + 1 = K := ⟨_, rfl⟩
  rw [hK] at T0
  try rw [hK]
  go_wp2_with fail
  refine (k1 _ T0.cut).mono ?_
  rintro e w1 ⟨rfl, h1, g1⟩
  have T1 := T0.read h1 g1
  obtain ⟨c0, c1, c2, c3, c4, c5, c6, c7, c8⟩ := T1.bx.c9
  have f0 := T1.bx.frozen
  have P1 := T1.set 0 (.string ⟨key.toArray⟩)
  clear h1 g1 T0 T1 k1
  go_wp2_with fail
  refine (k2 _ P1.cut).mono ?_
  rintro e w2 ⟨rfl, h1, g1⟩
  have T2 := P1.read h1 g1
  clear h1 g1 P1 k2 f0
  clear c0 c1 c2 c3 c4 c5 c6 c7 c8
  have hsh : _ := T2.cut.short
  simp only [Option.isNone_some] at hsh
  go_wp2_with fail
  refine (k3 _ T2.cut).mono ?_
  rintro e w3 ⟨rfl, h3, g3⟩
  have T3 := T2.read h3 g3
  clear h3 g3 T2 hsh
  go_wp2_with fail
  refine (k4 _ T3.cut).mono ?_
  rintro e w4 ⟨rfl, h4, g4⟩
  have T4 := T3.read h4 g4
  clear h4 g4 T3
  go_wp2_with fail
  refine (qPolicy_2 2 x y (by decide) _).mono ?_
  rintro e w8 ⟨rfl, u8⟩
  have P8 := T4.up u8
  obtain ⟨c0, c1, c2, c3, c4, c5, c6, c7, c8⟩ := P8.bx.c9
  have f0 := P8.bx.frozen
  have P9 := (((((P8.set 1 (.int .i64 2)).set 2 (V 0)).set 3 (V 0)).set 4 (V x)).set 5 (V y))
  clear T4 u8 P8
  go_wp2_with fail
  refine (k5 _ P9.cut).mono ?_
  rintro e w15 ⟨rfl, h5, g5⟩
  have T5 := P9.read h5 g5
  clear h5 g5 P9 f0
  clear c0 c1 c2 c3 c4 c5 c6 c7 c8
  obtain ⟨c0, c1, c2, c3, c4, c5, c6, c7, c8⟩ := T5.bx.c9
  have f0 := T5.bx.frozen
  have Q5 := T5.set 7 (V z)
  clear T5
  go_wp2_with fail
  refine (k6 _ Q5.cut).mono ?_
  rintro e w16 ⟨rfl, h6, g6⟩
  have T6 := Q5.read h6 g6
  clear h6 g6 Q5 f0
  clear c0 c1 c2 c3 c4 c5 c6 c7 c8
  obtain ⟨c0, c1, c2, c3, c4, c5, c6, c7, c8⟩ := T6.bx.c9
  have f0 := T6.bx.frozen
  have Q6 := T6.set 8 (V n)
  clear T6
  cases s6 with
  | none =>
    go_upto_region 15 with fail
    clear c0 c1 c2 c3 c4 c5 c6 c7 c8
    clear f0
    generalize World.setCell _ _ _ = wz at Q6 ⊢
    have PF : Tq w wz r v b none K #[.string ⟨key.toArray⟩, .int .i64 2, V 0, V 0, V x, V y, V 0, V z, V n] := Q6
    clear Q6
    have hsh : _ := PF.cut.short
    simp only [Option.isNone_none] at hsh
    obtain ⟨c0, c1, c2, c3, c4, c5, c6, c7, c8⟩ := PF.bx.c9
    obtain ⟨p0, p1, p2, p3, p4, p5, p6, p7, p8, ho⟩ := PF.oc
    have f1 := ho.frozen
    obtain ⟨o0, o1, o2, o3, o4, o5, o6, o7, o8⟩ := ho.c9
    obtain ⟨wf, hwf, r1, r2, r3⟩ := PF.fin (.string ⟨key.toArray⟩) (.int .i64 2) (V 0) (V 0) (V x) (V y) (V 0) (V z) (V n)
    clear PF
    go_wp2
    generalize hq : World.setCell _ _ _ = wq
    obtain rfl : wq = wf := hq.symm.trans hwf.symm
    clear hq hwf o0 o1 o2 o3 o4 o5 o6 o7 o8 f1 ho
    clear c0 c1 c2 c3 c4 c5 c6 c7 c8
    obtain ⟨d0, d1, d2, d3, d4, d5, d6, d7, d8⟩ := r3.c9
    exact bodyPost_ret (v := .tuple #[EV (⟨key.toArray⟩, ⟨2, 0, 0, x, y⟩, ⟨0, z, n⟩), .int .i64 2]) (by simp [results, Tryd.results40, go_sem, d0, d1, d2, d3, d4, d5, d6, d7, d8]) rfl ⟨⟨_, _, _, rfl⟩, r2⟩
  | some bz =>
    go_upto_region 15 with fail
    clear c0 c1 c2 c3 c4 c5 c6 c7 c8
    clear f0
    generalize World.setCell _ _ _ = wz at Q6 ⊢
    have PF : Tq w wz r v b (some bz) K #[.string ⟨key.toArray⟩, .int .i64 2, V 0, V 0, V x, V y, V 0, V z, V n] := Q6
    clear Q6
    have hsh : _ := PF.cut.short
    simp only [Option.isNone_some] at hsh
    obtain ⟨c0, c1, c2, c3, c4, c5, c6, c7, c8⟩ := PF.bx.c9
    obtain ⟨p0, p1, p2, p3, p4, p5, p6, p7, p8, ho⟩ := PF.oc
    have f1 := ho.frozen
    obtain ⟨o0, o1, o2, o3, o4, o5, o6, o7, o8⟩ := ho.c9
    obtain ⟨wf, hwf, r1, r2, r3⟩ := PF.fin (.string ⟨key.toArray⟩) (.int .i64 2) (V 0) (V 0) (V x) (V y) (V 0) (V z) (V n)
    clear PF
    go_wp2
    generalize hq : World.setCell _ _ _ = wq
    obtain rfl : wq = wf := hq.symm.trans hwf.symm
    clear hq hwf o0 o1 o2 o3 o4 o5 o6 o7 o8 f1 ho
    clear c0 c1 c2 c3 c4 c5 c6 c7 c8
    obtain ⟨d0, d1, d2, d3, d4, d5, d6, d7, d8⟩ := r3.c9
    exact bodyPost_ret (v := .tuple #[EV (⟨key.toArray⟩, ⟨2, 0, 0, x, y⟩, ⟨0, z, n⟩), .int .i64 0]) (by simp [results, Tryd.results40, go_sem, d0, d1, d2, d3, d4, d5, d6, d7, d8]) rfl ⟨.inr ⟨_, rfl, rfl, r1⟩, r2⟩

/-- What the reference's entry answers. -/
def QeP (w' : World) (r : Nat) (v : Value) (b : List UInt8) (e : Ending) : Except ImE (Ent × List UInt8) → Prop
  | .error .short => ∃ y : Ent, e = .returned (.tuple #[EV y, .int .i64 2])
  | .error _ => ∃ y : Ent, e = .returned (.tuple #[EV y, .int .i64 3])
  | .ok (x, rest) => e = .returned (.tuple #[EV x, .int .i64 0]) ∧ CutS w' r v b (some rest)
theorem qEntry_any {w : World} {r : Nat} {v : Value} {b rest : List UInt8} (h : CutS w r v b (some rest)) (hl : (b.length : Int) ≤ 140737488351232) :
    Calls Tryd.prog 40 #[.pointer (some ⟨r, 0, none⟩)] w fun e w' => QeP w' r v b e (entD rest) ∧ But r w w' := by
  unfold entD
  simp only
  generalize e1 : rdTA (some rest) = r1
  obtain ⟨key, s1⟩ := r1
  simp only
  generalize e2 : rdA 1 s1 = r2
  obtain ⟨k, s2⟩ := r2
  simp only
  cases s2 with
  | none => exact qEntry_short h hl e1 e2
  | some b2 =>
    simp only
    by_cases k1 : k = 1
    · subst k1
      rw [if_pos rfl]
      generalize e3 : rdA 8 (some b2) = r3
      obtain ⟨x, s3⟩ := r3
      simp only
      generalize e4 : rdA 8 s3 = r4
      obtain ⟨y, s4⟩ := r4
      simp only
      generalize e5 : rdA 8 s4 = r5
      obtain ⟨z, s5⟩ := r5
      refine (qEntry_flow h hl e1 e2 e3 e4 e5).mono ?_
      rintro e w' ⟨hc, hb⟩
      refine ⟨?_, hb⟩
      rcases hc with ⟨rfl, hy⟩ | ⟨bz, rfl, rfl, hr⟩
      · exact hy
      · exact ⟨rfl, hr⟩
    · rw [if_neg k1]
      by_cases k2 : k = 2
      · subst k2
        rw [if_pos rfl]
        generalize e3 : rdA 8 (some b2) = r3
        obtain ⟨x, s3⟩ := r3
        simp only
        generalize e4 : rdA 8 s3 = r4
        obtain ⟨y, s4⟩ := r4
        simp only
        generalize e5 : rdA 8 s4 = r5
        obtain ⟨z, s5⟩ := r5
        simp only
        generalize e6 : rdA 8 s5 = r6
        obtain ⟨n, s6⟩ := r6
        refine (qEntry_grid h hl e1 e2 e3 e4 e5 e6).mono ?_
        rintro e w' ⟨hc, hb⟩
        refine ⟨?_, hb⟩
        rcases hc with ⟨rfl, hy⟩ | ⟨bz, rfl, rfl, hr⟩
        · exact hy
        · exact ⟨rfl, hr⟩
      · rw [if_neg k2]
        exact qEntry_form h hl e1 e2 (by simp only [bne_iff_ne, ne_eq]; omega) (by simp only [bne_iff_ne, ne_eq]; omega)
end Go.Proofs.YtooclofdljampaaDoor

/- Merged: RcRefC. -/
import Derived.Test.YtcllenlpoknakaaDoorMr31
set_option linter.unusedVariables false
set_option linter.unusedSimpArgs false
namespace Go.Proofs.YtcllenlpoknakaaDoor
open Go Go.RowKit

/-- The Cut at r over the bytes bs of v, in the state st. -/
structure CutS (w : World) (r : Nat) (v : Value) (bs : List UInt8) (st : Option (List UInt8)) : Prop where
  box : ∃ (at_ : Nat) (sh : Bool), Box w r #[v, .int .i64 (at_ : Int), .bool sh] ∧ at_ ≤ bs.length ∧ st = if sh then none else some (bs.drop at_)
  sl : SlP (fun b => b < r) w v bs
theorem SlP.butR {w w' : World} {r : Nat} {v : Value} {bs : List UInt8} (h : SlP (fun b => b < r) w v bs) (hb : But r w w') : SlP (fun b => b < r) w' v bs := by
  obtain ⟨ao, cap, rfl, h2, h3, hx⟩ := h
  refine ⟨_, _, rfl, h2, h3, fun hne => ?_⟩
  obtain ⟨b, o, e, hlt, ha⟩ := hx hne
  exact ⟨b, o, e, hlt, fun i hi => by rw [hb.cell (ha i hi) (by simp; omega)]⟩
theorem CutS.up {w w' : World} {r : Nat} {v : Value} {bs : List UInt8} {st : Option (List UInt8)} (h : CutS w r v bs st) (u : Up w w') : CutS w' r v bs st := by
  obtain ⟨⟨a, s, hb, h2⟩, hs⟩ := h
  exact ⟨⟨a, s, hb.up u, h2⟩, hs.up u⟩

theorem lb_consR (c : UInt8) (cs : List UInt8) : lb (c :: cs) = c.toNat + 256 * lb cs := rfl
/-- A store into a Cut's box. -/
theorem CutS.put {w : World} {r : Nat} {v : Value} {bs : List UInt8} {a0 : Nat} {s0 : Bool} (hb : Box w r #[v, .int .i64 (a0 : Int), .bool s0]) (hs : SlP (fun b => b < r) w v bs) (a : Nat) (ha : a ≤ bs.length) : CutS (w.setCell ⟨r, 1, none⟩ (.int .i64 (a : Int))) r v bs (if s0 then none else some (bs.drop a)) :=
  ⟨⟨a, s0, hb.set 1 _, ha, rfl⟩, hs.butR (But.setCell w r 1 _)⟩
theorem CutS.stop {w : World} {r : Nat} {v : Value} {bs : List UInt8} {a0 : Nat} {s0 : Bool} (hb : Box w r #[v, .int .i64 (a0 : Int), .bool s0]) (ha : a0 ≤ bs.length) (hs : SlP (fun b => b < r) w v bs) : CutS (w.setCell ⟨r, 2, none⟩ (.bool true)) r v bs none :=
  ⟨⟨a0, true, hb.set 2 _, ha, rfl⟩, hs.butR (But.setCell w r 2 _)⟩

set_option maxHeartbeats 1600000 in
theorem qNumber_short (r : Nat) (v : Value) (bs : List UInt8) (a0 n : Nat) (s0 : Bool) (w : World) (hb : Box w r #[v, .int .i64 (a0 : Int), .bool s0]) (ha : a0 ≤ bs.length) (hs : SlP (fun b => b < r) w v bs) (hl : (bs.length : Int) ≤ 140737488351232) (hn : (n : Int) ≤ 8)
    (h : s0 = true ∨ s0 = false ∧ (bs.length : Int) - (a0 : Int) < (n : Int)) :
    Calls Tryd.prog 41 #[.pointer (some ⟨r, 0, none⟩), .int .i64 (n : Int)] w fun e w' => e = .returned Z ∧ CutS w' r v bs none ∧ But r w w' := by
  have hs' := hs
  obtain ⟨ao, cap, rfl, _⟩ := hs'
  obtain ⟨N, hN⟩ : ∃ N, bs.length = N := ⟨_, rfl⟩
  have HH : Hid (bs.length = N ∧ a0 ≤ bs.length) := ⟨hN, ha⟩
  rw [hN] at hl h hb hs ⊢
  have ha2 : (a0 : Int) ≤ (N : Int) := by omega
  have ha3 : (0 : Int) ≤ (a0 : Int) := by omega
  clear hN ha
  obtain ⟨c0, c1, c2⟩ := hb.c3
  rcases h with rfl | ⟨rfl, h⟩
  all_goals
    go_enter Tryd.func41, Tryd.ntmps41
    go_wp2
    go_quiet (fail)
    obtain ⟨w1, hw1⟩ : ∃ w1, w.drewN nq = w1 := ⟨_, rfl⟩
    have u1 : Up w w1 := by rw [← hw1]; exact up_drewN _ _
    have b1 := hb.up u1
    have s1 := hs.up u1
    rw [hw1]
    clear hw1 c0 c1 c2 hb hs
    obtain ⟨c0, c1, c2⟩ := b1.c3
    have cf := b1.frozen
    have cl := b1.lt
    have D := CutS.stop b1 HH.out.2 s1
    have g := (But.of_up r u1).trans (But.setCell w1 r 2 (.bool true))
    go_wp2
    go_ret
    exact ⟨rfl, by simpa [HH.out.1] using D, g⟩

set_option maxRecDepth 20000 in
set_option maxHeartbeats 3200000 in
theorem qNumber_ok (r : Nat) (v : Value) (bs : List UInt8) (at_ n : Nat) (w : World) (hb : Box w r #[v, .int .i64 (at_ : Int), .bool false]) (ha : at_ + n ≤ bs.length) (hs : SlP (fun b => b < r) w v bs) (hl : (bs.length : Int) ≤ 140737488351232) (hn : n ≤ 8) (hn1 : 1 ≤ n) :
    Calls Tryd.prog 41 #[.pointer (some ⟨r, 0, none⟩), .int .i64 (n : Int)] w fun e w' => e = .returned (V (lb ((bs.drop at_).take n))) ∧ CutS w' r v bs (some (bs.drop (at_ + n))) ∧ But r w w' := by
  obtain ⟨R, hR⟩ : ∃ R, lb ((bs.drop at_).take n) = R := ⟨_, rfl⟩
  rw [hR]
  have HR0 : Hid (lb ((bs.drop at_).take n) = R ∧ at_ + n ≤ bs.length ∧ n ≤ 8) := ⟨hR, ha, hn⟩
  have hs' := hs
  obtain ⟨ao, cap, rfl, _, _, hx⟩ := hs'
  obtain ⟨N, hN⟩ : ∃ N, bs.length = N := ⟨_, rfl⟩
  have HN : Hid (bs.length = N) := hN
  rw [hN] at ha hl hb hs ⊢
  have HB : Hid (Box w r #[.slice ao N cap, .int .i64 (at_ : Int), .bool false]) := hb
  have HS : Hid (SlP (fun b => b < r) w (.slice ao N cap) bs) := hs
  have hai : (at_ : Int) + (n : Int) ≤ (N : Int) := by omega
  have hn8 : (n : Int) ≤ 8 := by omega
  have hn0 : (1 : Int) ≤ (n : Int) := by omega
  have hat0 : (0 : Int) ≤ (at_ : Int) := by omega
  have hno : ¬ (N : Int) - (at_ : Int) < (n : Int) := by omega
  obtain ⟨c0, c1, c2⟩ := hb.c3
  clear hR ha hn hN hn1 hs
  go_enter Tryd.func41, Tryd.ntmps41
  go_wp2
  go_quiet (fail)
  obtain ⟨w1, hw1⟩ : ∃ w1, w.drewN nq = w1 := ⟨_, rfl⟩
  have HW : Hid (w.drewN nq = w1) := hw1
  rw [hw1]
  clear hw1 c0 c1 c2 hb hno
  go_wp2
  go_loopg [5, 6] n (fun g x i wr => ∃ k : Nat, k ≤ n ∧ n - k = g ∧ i = .int .i64 ((n : Int) - (k : Int) - 1) ∧ x = .int .u64 ((lb (((bs.drop at_).take n).drop (n - k)) : Nat) : Int) ∧ Hid (∃ q, w.drewN q = wr))
  case atStart => exact ⟨0, by omega, by omega, by simp, by rw [Nat.sub_zero, List.drop_of_length_le (by simp; omega)]; rfl, ⟨_, HW.out⟩⟩
  case round =>
    obtain ⟨k, hk, rfl, rfl, rfl, HQ⟩ := hrel
    obtain ⟨q0, hq0⟩ := HQ.out
    have ur : Up w wr := by rw [← hq0]; exact up_drewN _ _
    have HQ0 : Hid (w.drewN q0 = wr) := hq0
    have br := HB.out.up ur
    have sr := HS.out.up ur
    have Ur : Hid (Up w wr) := ur
    clear hq0 HQ ur
    obtain ⟨c0, c1, c2⟩ := br.c3
    by_cases hlt : k < n
    · have Hlt : Hid (k < n) := hlt
      have hne : bs ≠ [] := by rintro rfl; have := HR0.out.2.1; simp at this; omega
      obtain ⟨b, o, rfl, _, hat⟩ := hx hne
      have hi1 : at_ + (n - (k + 1)) < bs.length := by have := HR0.out.2.1; omega
      have hc := (hat.up Ur.out) _ hi1
      obtain ⟨t, ht⟩ : ∃ t, n - (k + 1) = t := ⟨_, rfl⟩
      have hti : (n : Int) - (k : Int) - 1 = (t : Int) := by omega
      have hnk : n - k = t + 1 := by omega
      have hl2 : t < ((bs.drop at_).take n).length := by rw [List.length_take, List.length_drop]; have := HR0.out.2.1; omega
      have hdr : ((bs.drop at_).take n).drop t = bs[at_ + (n - (k + 1))]'hi1 :: ((bs.drop at_).take n).drop (n - k) := by
        rw [List.drop_eq_getElem_cons hl2, hnk]
        congr 1
        simp [ht]
      obtain ⟨c, hcc⟩ : ∃ c, bs[at_ + (n - (k + 1))]'hi1 = c := ⟨_, rfl⟩
      rw [hcc] at hdr hc
      rw [ht] at hc
      have hst : lb (((bs.drop at_).take n).drop (n - (k + 1))) = c.toNat + 256 * lb (((bs.drop at_).take n).drop (n - k)) := by rw [ht, hdr, lb_consR]
      have hlb : lb (((bs.drop at_).take n).drop (n - k)) < 256 ^ k := by
        have := lb_lt (((bs.drop at_).take n).drop (n - k))
        rwa [show (((bs.drop at_).take n).drop (n - k)).length = k by simp; have := HR0.out.2.1; omega] at this
      have hlb7 : lb (((bs.drop at_).take n).drop (n - k)) < 256 ^ 7 := Nat.lt_of_lt_of_le hlb (Nat.pow_le_pow_right (by omega) (by have := HR0.out.2.2; omega))
      obtain ⟨X, hX⟩ : ∃ X, lb (((bs.drop at_).take n).drop (n - k)) = X := ⟨_, rfl⟩
      rw [hX] at hst hlb7 ⊢
      have hXi : (X : Int) < 72057594037927936 := by omega
      have hX0 : (0 : Int) ≤ (X : Int) := by omega
      have hq := c.toNat_lt
      have hq2 : (c.toNat : Int) < 256 := by omega
      have hq0 : (0 : Int) ≤ (c.toNat : Int) := by omega
      have Hst : Hid (lb (((bs.drop at_).take n).drop (n - (k + 1))) = c.toNat + 256 * X) := hst
      have ht0 : (0 : Int) ≤ (t : Int) := by omega
      have hts : (at_ : Int) + (t : Int) < (N : Int) := by omega
      have Hti : Hid ((t : Int) - 1 = (n : Int) - ((k + 1 : Nat) : Int) - 1) := by show _ = _; omega
      have Hsi : Hid ((c.toNat : Int) + 256 * (X : Int) = ((c.toNat + 256 * X : Nat) : Int)) := by show _ = _; omega
      rw [hti]
      simp only [B] at hc
      clear hx hat hdr hst hlb hlb7 hX hcc hl2 hi1 hne hnk ht hti hlt hq br sr
      go_wp2_with fail
      go_quiet (fail)
      obtain ⟨w8, hw8⟩ : ∃ w8, wr.drewN nq = w8 := ⟨_, rfl⟩
      have H8 : Hid (∃ q, w.drewN q = w8) := ⟨q0 + nq, by rw [← hw8, ← HQ0.out, World.drewN_drewN]⟩
      rw [hw8]
      clear hw8 c0 c1 c2 hc HQ0
      go_wp2
      go_roundg (n - (k + 1))
      case measure => have := Hlt.out; omega
      case rel => exact ⟨k + 1, Hlt.out, rfl, by rw [← Hti.out], by rw [Hst.out]; first | (rw [← Hsi.out]; congr 1; omega) | (congr 1; have := Hsi.out; omega), H8⟩
    · obtain rfl : k = n := by omega
      have hr : lb (((bs.drop at_).take k).drop (k - k)) = R := by rw [Nat.sub_self, List.drop_zero, HR0.out.1]
      rw [hr]
      have hm : (k : Int) - (k : Int) - 1 = -1 := by omega
      rw [hm]
      have D := CutS.put br sr (at_ + k) HR0.out.2.1
      have g := (But.of_up r Ur.out).trans (But.setCell wr r 1 (.int .i64 ((at_ + k : Nat) : Int)))
      have hcast : ((at_ + k : Nat) : Int) = (at_ : Int) + (k : Int) := by omega
      rw [hcast] at D g
      have cf := br.frozen
      have cl := br.lt
      have HD := show Hid _ from D
      have Hg := show Hid _ from g
      clear hr HR0 hx hm hcast D g br sr HQ0
      go_wp2
      go_ret
      exact ⟨rfl, by simpa using HD.out, Hg.out⟩

/-- Number, whatever the state. -/
theorem qNumber_S {r : Nat} {v : Value} {bs : List UInt8} {st : Option (List UInt8)} {w : World} (h : CutS w r v bs st) (hl : (bs.length : Int) ≤ 140737488351232) (n : Nat) (hn : n ≤ 8) (hn1 : 1 ≤ n) :
    Calls Tryd.prog 41 #[.pointer (some ⟨r, 0, none⟩), .int .i64 (n : Int)] w fun e w' => e = .returned (V (rdA n st).1) ∧ CutS w' r v bs (rdA n st).2 ∧ But r w w' := by
  obtain ⟨⟨a0, s0, hb, ha, rfl⟩, hs⟩ := h
  cases s0 with
  | true => exact qNumber_short r v bs a0 n true w hb ha hs hl (by omega) (.inl rfl)
  | false =>
    by_cases hlt : (bs.drop a0).length < n
    · have e : rdA n (some (bs.drop a0)) = (0, none) := by simp only [rdA]; rw [if_pos hlt]
      show Calls _ _ _ _ fun e w' => e = .returned (V (rdA n (some (bs.drop a0))).1) ∧ CutS w' r v bs (rdA n (some (bs.drop a0))).2 ∧ But r w w'
      rw [e]
      rw [List.length_drop] at hlt
      exact qNumber_short r v bs a0 n false w hb ha hs hl (by omega) (.inr ⟨rfl, by omega⟩)
    · have e : rdA n (some (bs.drop a0)) = (lb ((bs.drop a0).take n), some (bs.drop (a0 + n))) := by simp only [rdA]; rw [if_neg hlt, List.drop_drop]
      show Calls _ _ _ _ fun e w' => e = .returned (V (rdA n (some (bs.drop a0))).1) ∧ CutS w' r v bs (rdA n (some (bs.drop a0))).2 ∧ But r w w'
      rw [e]
      rw [List.length_drop] at hlt
      exact qNumber_ok r v bs a0 n w hb (by omega) hs hl hn hn1

theorem rdTA_no {st : Option (List UInt8)} {n : Nat} (h : rdA 2 st = (n, none)) : rdTA st = ([], none) ∧ n = 0 := by
  cases st with
  | none => simp only [rdA, Prod.mk.injEq] at h; exact ⟨rfl, h.1.symm⟩
  | some bs =>
    simp only [rdA, rdTA] at h ⊢
    by_cases h2 : bs.length < 2
    · rw [if_pos h2] at h ⊢
      simp only [Prod.mk.injEq] at h
      exact ⟨rfl, h.1.symm⟩
    · rw [if_neg h2] at h
      simp at h
theorem rdTA_yes {st : Option (List UInt8)} {n : Nat} {b2 : List UInt8} (h : rdA 2 st = (n, some b2)) : rdTA st = if b2.length < n then ([], none) else (b2.take n, some (b2.drop n)) := by
  cases st with
  | none => simp [rdA] at h
  | some bs =>
    simp only [rdA, rdTA] at h ⊢
    by_cases h2 : bs.length < 2
    · rw [if_pos h2] at h
      simp at h
    · rw [if_neg h2] at h ⊢
      simp only [Prod.mk.injEq, Option.some.injEq] at h
      obtain ⟨rfl, rfl⟩ := h
      rfl

set_option maxRecDepth 20000 in
set_option maxHeartbeats 3200000 in
theorem qText_S {r : Nat} {v : Value} {bs : List UInt8} {st : Option (List UInt8)} {w : World} (h : CutS w r v bs st) (hl : (bs.length : Int) ≤ 140737488351232) :
    Calls Tryd.prog 42 #[.pointer (some ⟨r, 0, none⟩)] w fun e w' => e = .returned (.string ⟨(rdTA st).1.toArray⟩) ∧ CutS w' r v bs (rdTA st).2 ∧ But r w w' := by
  obtain ⟨ao, cap, rfl, _⟩ := id h.sl
  obtain ⟨N, hNN⟩ : ∃ N, bs.length = N := ⟨_, rfl⟩
  have HN : Hid (bs.length = N) := hNN
  have hN := qNumber_S h hl 2 (by omega) (by omega)
  have hn2 := rdA_lt 2 st
  rcases hq : rdA 2 st with ⟨n, st2⟩
  rw [hq] at hN hn2
  simp only at hN hn2
  have Hq : Hid (rdA 2 st = (n, st2)) := hq
  have hnI : (n : Int) ≤ 65535 := by omega
  have hn0 : (0 : Int) ≤ (n : Int) := by omega
  rw [hNN] at hl hN ⊢
  clear hq hn2 h hNN
  go_enter Tryd.func42, Tryd.ntmps42
  go_wp2_with fail
  refine hN.mono ?_
  rintro e w1 ⟨rfl, C1, g1⟩
  clear hN
  obtain ⟨⟨a1, s1, b1, ha, hst⟩, sl1⟩ := C1
  have HA : Hid (a1 ≤ bs.length) := ha
  rw [HN.out] at ha
  have haI : (a1 : Int) ≤ (N : Int) := by omega
  have ha0 : (0 : Int) ≤ (a1 : Int) := by omega
  have HSt : Hid (st2 = if s1 then none else some (bs.drop a1)) := hst
  clear ha hst
  obtain ⟨c0, c1, c2⟩ := b1.c3
  by_cases hbad : s1 = true ∨ s1 = false ∧ (N : Int) - (a1 : Int) < (n : Int)
  · have Hf : Hid (rdTA st = ([], none)) := by
      show rdTA st = ([], none)
      have hs := HSt.out
      rcases hbad with rfl | ⟨rfl, h2⟩
      · exact (rdTA_no (by rw [Hq.out, hs]; rfl)).1
      · rw [rdTA_yes (b2 := bs.drop a1) (by rw [Hq.out, hs]; rfl), if_pos (by rw [List.length_drop]; have := HN.out; omega)]
    rcases hbad with rfl | ⟨rfl, h2⟩
    all_goals
      go_wp2_with fail
      go_quiet (fail)
      obtain ⟨w2, hw2⟩ : ∃ w2, w1.drewN nq = w2 := ⟨_, rfl⟩
      have u2 : Up w1 w2 := by rw [← hw2]; exact up_drewN _ _
      have b2 := b1.up u2
      have sl2 := sl1.up u2
      have D := CutS.stop b2 HA.out sl2
      have g2 := (g1.trans (But.of_up r u2)).trans (But.setCell w2 r 2 (.bool true))
      rw [hw2]
      clear hw2 c0 c1 c2 b1 sl1
      obtain ⟨c0, c1, c2⟩ := b2.c3
      have cf := b2.frozen
      have cl := b2.lt
      have HD := show Hid _ from D
      have Hg := show Hid _ from g2
      clear D g2 g1 sl2 b2 u2
      go_wp2
      go_ret
      exact ⟨by rw [Hf.out]; rfl, by rw [Hf.out]; exact HD.out, Hg.out⟩
  · obtain rfl : s1 = false := by
      cases s1 with
      | true => exact absurd (.inl rfl) hbad
      | false => rfl
    have h2 : ¬ (N : Int) - (a1 : Int) < (n : Int) := fun h => hbad (.inr ⟨rfl, h⟩)
    have h3 : (a1 : Int) + (n : Int) ≤ (N : Int) := by omega
    have Hf : Hid (rdTA st = ((bs.drop a1).take n, some (bs.drop (a1 + n)))) := by
      show rdTA st = _
      have hs := HSt.out
      rw [rdTA_yes (b2 := bs.drop a1) (by rw [Hq.out, hs]; rfl), if_neg (by rw [List.length_drop]; have := HN.out; omega), List.drop_drop]
    obtain ⟨v3, sl3, hcut, _, _⟩ := sl_cutP sl1 a1 (a1 + n) (by omega) (by have := HN.out; omega)
    rw [show a1 + n - a1 = n by omega] at sl3
    rw [show ((a1 + n : Nat) : Int) = (a1 : Int) + (n : Int) by omega] at hcut
    obtain ⟨a3, q3, rfl, _⟩ := id sl3
    obtain ⟨M, hM⟩ : ∃ M, ((bs.drop a1).take n).length = M := ⟨_, rfl⟩
    rw [hM] at hcut sl3
    have hwrap : IntKind.i64.wrap ((a1 : Int) + (n : Int)) = (a1 : Int) + (n : Int) := by rw [IntKind.wrap_i64]; omega
    have hcut2 : ∀ u, (Instr.slice 33 (.slice ao N cap) (some (.int .i64 (a1 : Int))) (some (.int .i64 (IntKind.i64.wrap ((a1 : Int) + (n : Int))))) none).run Tryd.prog u = .ok (.slice a3 M q3) u := by rw [hwrap]; exact hcut
    clear hwrap
    clear hM hbad
    go_wp2_with fail
    go_quiet (fail)
    obtain ⟨w2, hw2⟩ : ∃ w2, w1.drewN nq = w2 := ⟨_, rfl⟩
    have u2 : Up w1 w2 := by rw [← hw2]; exact up_drewN _ _
    have b2 := b1.up u2
    have sl2 := sl1.up u2
    have hstr := fun q => sl_stringP (sl3.up (u2.trans (up_drewN w2 q)))
    obtain ⟨S, hS⟩ : ∃ S : ByteArray, (⟨((bs.drop a1).take n).toArray⟩ : ByteArray) = S := ⟨_, rfl⟩
    rw [hS] at hstr
    have HSS := show Hid _ from hS
    rw [hw2]
    clear hw2 c0 c1 c2 b1 sl1 hS
    obtain ⟨c0, c1, c2⟩ := b2.c3
    go_wp2_with fail
    go_quiet (fail)
    obtain ⟨w3, hw3⟩ : ∃ w3, w2.drewN nq = w3 := ⟨_, rfl⟩
    have u3 : Up w2 w3 := by rw [← hw3]; exact up_drewN _ _
    have b3 := b2.up u3
    have sl3' := sl2.up u3
    rw [hw3]
    clear hw3 c0 c1 c2 b2 sl2 hstr hcut hcut2
    obtain ⟨c0, c1, c2⟩ := b3.c3
    have cf := b3.frozen
    have cl := b3.lt
    have D := CutS.put b3 sl3' (a1 + n) (by have := HN.out; omega)
    have g3 := ((g1.trans (But.of_up r u2)).trans (But.of_up r u3)).trans (But.setCell w3 r 1 (.int .i64 ((a1 + n : Nat) : Int)))
    rw [show ((a1 + n : Nat) : Int) = (a1 : Int) + (n : Int) by omega] at D g3
    have HD := show Hid _ from D
    have Hg := show Hid _ from g3
    clear D g3 g1 sl3 sl3' b3 u2 u3
    go_wp2
    go_ret
    exact ⟨by rw [Hf.out]; exact congrArg (fun s => Ending.returned (Value.string s)) HSS.out.symm, by rw [Hf.out]; simpa using HD.out, Hg.out⟩
end Go.Proofs.YtcllenlpoknakaaDoor

/- Merged: BkScan. -/
import Derived.Test.YtkfjkfpodkbkaaaDoorMk31
import Derived.Test.YtkfjkfpodkbkaaaDoorMk32
set_option linter.unusedVariables false
set_option linter.unusedSimpArgs false
namespace Go.Proofs.YtkfjkfpodkbkaaaDoor
open Go Go.RowKit

/-- Whether a number is in a list. -/
def badOf (zs : List Int) (i : Nat) : Bool := decide ((i : Int) ∈ zs)
theorem endB_stop (n : Nat) : ∀ bad, endB n bad < n → (endB n bad : Int) ∈ bad := by
  intro bad
  induction bad generalizing n with
  | nil => intro h; exact absurd h (Nat.lt_irrefl _)
  | cons z r ih =>
    show endB (if 0 ≤ z then min n z.toNat else n) r < n → ((endB (if 0 ≤ z then min n z.toNat else n) r : Nat) : Int) ∈ z :: r
    intro h
    have hle := endB_le (if 0 ≤ z then min n z.toNat else n) r
    by_cases h2 : endB (if 0 ≤ z then min n z.toNat else n) r < (if 0 ≤ z then min n z.toNat else n)
    · exact List.mem_cons_of_mem _ (ih _ h2)
    · have e : endB (if 0 ≤ z then min n z.toNat else n) r = (if 0 ≤ z then min n z.toNat else n) := by omega
      rw [e] at h ⊢
      split at h
      · rename_i hz
        rw [if_pos hz]
        have : min n z.toNat = z.toNat := by omega
        rw [this, Int.toNat_of_nonneg hz]
        exact List.mem_cons_self
      · omega

theorem OwnV.hat {w : World} {base c : Nat} {ad : Addr} {us : List Value} (h : OwnV w base (.slice (some ad) us.length c) us) : ∀ j u, us[j]? = some u → w.cell? (ad.add j) = some u := by
  intro j u hu
  obtain ⟨hj, rfl⟩ := List.getElem?_eq_some_iff.1 hu
  obtain ⟨g, cap, e, hc⟩ := h.cell j hj
  simp only [Value.slice.injEq, Option.some.injEq] at e
  rw [e.1, Addr.add_lit, Nat.zero_add]
  exact hc
theorem Recs.some {w : World} {base : Nat} {v : Value} {L : List (List UInt8)} {vs : List Value} (h : Recs w base v L vs) (hne : L ≠ []) : ∃ ad cap, v = .slice (some ad) vs.length cap := by
  rcases h.row.parts with ⟨_, e⟩ | ⟨g, cap, cur, rfl, _⟩
  · have := h.len; rw [e] at this; exact absurd (List.eq_nil_of_length_eq_zero this.symm) hne
  · exact ⟨_, cap, rfl⟩
theorem decB_count {b : List UInt8} {f : Nat} {rs : List Rec} (h : decB b = .ok (f, rs)) : 0 < rs.length ∧ rs.length ≤ 247 ∧ f + rs.length ≤ 2 ^ 62 + 1 := by
  obtain ⟨hf, _⟩ := blk_dec h
  have h1 := bodyB_count rs
  have h2 := hf.room
  exact ⟨List.length_pos_iff.2 hf.one, by omega, hf.top⟩

/-- While sectors are scanned. -/
structure ScanR (w wr : World) (v : Value) (M : List Rec) (vs : List Value) (k : Nat) : Prop where
  recs : Recs wr w.heap.size v M vs
  up : Up w wr
  cnt : M.length ≤ 247 * k
theorem ScanR.more {w wr w1 w' : World} {v v2 v' : Value} {M rs : List Rec} {vs us : List Value} {k : Nat} (h : ScanR w wr v M vs k) (u : Up wr w1) (k2 : Recs w1 wr.heap.size v2 rs us) (hl : rs.length ≤ 247) (ho : OwnV w' w.heap.size v' (vs ++ us)) (hg : w1.grownBy w' v.ownBlock) :
    ScanR w w' v' (M ++ rs) (vs ++ us) (k + 1) := by
  have hv : ∀ x, v.ownBlock = some x → w.heap.size ≤ x ∧ x < wr.heap.size := fun x hx => World.ownsRow.lt h.recs.row x hx
  exact ⟨(h.recs.up u).append k2 h.up.size (fun x hx => (h.recs.mem hx).2.1) (fun x hx => (hv x hx).2) ho hg, grown_up (h.up.trans u) hg (fun x hx => (hv x hx).1), by rw [List.length_append]; have := h.cnt; omega⟩

set_option maxRecDepth 20000 in
set_option maxHeartbeats 1600000 in
theorem Scan_any (base : Nat) (v vb : Value) (d : List UInt8) (bad : List Int) (first : Nat) (w : World) (ad : Nat → Addr) (ht : Tb w) (hg : GlS w ad) (hs : Sl base w v d) (hb : SlI w vb bad) (hl : d.length ≤ 1000000000) (hn : bad.length ≤ 140737488355328) (hz : ∀ z ∈ bad, -9223372036854775808 ≤ z ∧ z ≤ 9223372036854775807) (hf : first < 18446744073709551616) :
    Calls Tryd.prog 12 #[v, vb, .int .u64 (first : Int)] w fun e w' => ∃ v' vs, e = .returned (.tuple #[v', .int .i64 ((scanB (badOf bad) (d.length / 512) d 0 first).2 : Nat)]) ∧ Recs w' w.heap.size v' (scanB (badOf bad) (d.length / 512) d 0 first).1 vs ∧ Up w w' := by
  have hfu := firstUnread_any base v vb d bad w hs hb (by omega) hn hz
  obtain ⟨RES, hRES⟩ : ∃ RES, scanB (badOf bad) (d.length / 512) d 0 first = RES := ⟨_, rfl⟩
  rw [hRES]
  obtain ⟨N, hN⟩ : ∃ N, d.length / 512 = N := ⟨_, rfl⟩
  obtain ⟨D, hD⟩ : ∃ D, endB (d.length / 512) bad = D := ⟨_, rfl⟩
  rw [hD] at hfu
  have hend : D ≤ N ∧ (∀ i, i < D → i < N ∧ badOf bad i = false) ∧ (D < N → badOf bad D = true) := by
    refine ⟨by rw [← hD, ← hN]; exact endB_le _ _, fun i hi => ?_, fun h => ?_⟩
    · rw [← hD] at hi
      have := (endB_bad _ _ _).1 hi
      exact ⟨by omega, decide_eq_false this.2.1⟩
    · rw [← hD, ← hN] at h
      rw [← hD]
      exact decide_eq_true (endB_stop _ _ h)
  have HE : Hid (D ≤ N ∧ (∀ i, i < D → i < N ∧ badOf bad i = false) ∧ (D < N → badOf bad D = true)) := hend
  have HA : Hid (Tb w ∧ GlS w ad ∧ Sl base w v d ∧ N = d.length / 512 ∧ d.length ≤ 1000000000) := ⟨ht, hg, hs, hN.symm, hl⟩
  obtain ⟨ao, cap, hv⟩ := hs.slice
  obtain ⟨bo, bc, _, hvb, _⟩ : ∃ ao cap, True ∧ vb = .slice ao bad.length cap ∧ True := by
    obtain ⟨ao, cap, e, _⟩ := hb
    exact ⟨ao, cap, trivial, e, trivial⟩
  have hDi : (D : Int) ≤ 2000000 := by have := hend.1; omega
  have hD0 : (0 : Int) ≤ (D : Int) := by omega
  have H0 : Hid (ScanR w w (.slice none 0 0) [] [] 0 ∧ RES = ([] ++ (scanB (badOf bad) (N - 0) (d.drop (512 * 0)) 0 first).1, 0 + (scanB (badOf bad) (N - 0) (d.drop (512 * 0)) 0 first).2) ∧ first < 18446744073709551616) := by
    refine ⟨⟨Recs.nil _ _, Up.refl _, by simp⟩, ?_, hf⟩
    rw [← hRES, hN]; simp
  clear hend hs hb ht hg hRES hD hN
  rw [hv, hvb] at hfu ⊢
  obtain ⟨dl, hdl⟩ : ∃ dl, d.length = dl := ⟨_, rfl⟩
  have Hdl : Hid (d.length = dl) := hdl
  rw [hdl] at hv hfu ⊢
  clear hdl hl
  go_enter Tryd.func12, Tryd.ntmps12
  go_wp2_with fail
  refine hfu.mono ?_
  rintro e w1 ⟨rfl, e1⟩
  obtain rfl : w = w1 := e1.symm
  clear hfu
  go_wp2
  go_loopg [2, 8, 18] D (fun g vf vr i wr => ∃ (k due : Nat) (M : List Rec) (vs : List Value), k ≤ D ∧ g = D - k ∧ i = .int .i64 k ∧ vf = .int .u64 (due : Int) ∧ Hid (ScanR w wr vr M vs k ∧ RES = (M ++ (scanB (badOf bad) (N - k) (d.drop (512 * k)) k due).1, k + (scanB (badOf bad) (N - k) (d.drop (512 * k)) k due).2) ∧ due < 18446744073709551616))
  case atStart => exact ⟨0, first, [], [], by omega, rfl, rfl, rfl, H0⟩
  case round =>
    clear H0
    obtain ⟨k, due, M, vs, hk, rfl, rfl, rfl, HR⟩ := hrel
    by_cases hlt : k < D
    · obtain ⟨htb, hg, hs, hN, hl⟩ := HA.out
      obtain ⟨hsr, hRES, hdue⟩ := HR.out
      have hkN := (HE.out.2.1 k hlt)
      have hlen : 512 * (k + 1) ≤ d.length := by omega
      obtain ⟨v1, hs1, hcut, _, _⟩ := sl_cut hs (k * 512) ((k + 1) * 512) (by omega) (by omega)
      have e1 : (d.drop (k * 512)).take ((k + 1) * 512 - k * 512) = (d.drop (512 * k)).take 512 := by
        rw [Nat.mul_comm k 512, show (k + 1) * 512 - 512 * k = 512 by omega]
      rw [e1] at hs1
      have hl1 : ((d.drop (512 * k)).take 512).length = 512 := by rw [List.length_take, List.length_drop]; omega
      obtain ⟨a1, c1, rfl⟩ := hs1.slice
      rw [hl1] at hs1 hcut
      rw [show ((k * 512 : Nat) : Int) = (k : Int) * 512 from by omega, show (((k + 1) * 512 : Nat) : Int) = ((k : Int) + 1) * 512 from by omega] at hcut
      have hdec := Decode_any base _ _ wr ad (htb.up hsr.up) (hs1.up hsr.up) (hg.up hsr.up)
      have hfuel : N - k = (N - (k + 1)) + 1 := by omega
      have hcond : ¬ ((d.drop (512 * k)).length < 512 ∨ badOf bad k = true) := by
        rw [hkN.2, List.length_drop]; simp; omega
      rw [hfuel, scanB, if_neg hcond] at hRES
      have hk1 : (k : Int) ≤ 2000000 := by omega
      have Hlt : Hid (k < D) := hlt
      rw [hv] at hcut
      cases hd : decB ((d.drop (512 * k)).take 512) with
      | error er =>
        rw [hd] at hdec hRES
        have hR : RES = (M, k) := by rw [hRES]; simp
        subst hR
        obtain ⟨av, cv, rfl⟩ := hsr.recs.slice
        clear hRES hd hcond hfuel hs1 hl1 e1 hlen hkN htb hg hs hN hl
        go_wp2_with fail
        refine hdec.mono ?_
        rintro e w2 ⟨hT, u2⟩
        clear hdec
        have hrec := hsr.recs.up u2
        have hup := hsr.up.trans u2
        clear hsr HR HE HA
        cases er with
        | short => obtain rfl := hT; go_wp2; go_ret2; exact ⟨_, rfl, ⟨_, hrec⟩, hup⟩
        | form => obtain rfl := hT; go_wp2; go_ret2; exact ⟨_, rfl, ⟨_, hrec⟩, hup⟩
        | sum => obtain rfl := hT; go_wp2; go_ret2; exact ⟨_, rfl, ⟨_, hrec⟩, hup⟩
      | ok x =>
        obtain ⟨f, rs⟩ := x
        rw [hd] at hdec hRES
        have hcnt := decB_count hd
        obtain ⟨av, cv, hvr⟩ := hsr.recs.slice
        by_cases hfd : f = due
        · subst hfd
          have hRES2 : RES = ((M ++ rs) ++ (scanB (badOf bad) (N - (k + 1)) (d.drop (512 * (k + 1))) (k + 1) (f + rs.length)).1, (k + 1) + (scanB (badOf bad) (N - (k + 1)) (d.drop (512 * (k + 1))) (k + 1) (f + rs.length)).2) := by
            rw [hRES]
            simp only [if_true]
            rw [List.drop_drop, show 512 * k + 512 = 512 * (k + 1) by omega, List.append_assoc]
            congr 1
            omega
          obtain ⟨m, hm⟩ : ∃ m, rs.length = m := ⟨_, rfl⟩
          rw [hm] at hRES2 hcnt
          have HS : Hid (ScanR w wr u8 M vs k ∧ RES = ((M ++ rs) ++ (scanB (badOf bad) (N - (k + 1)) (d.drop (512 * (k + 1))) (k + 1) (f + m)).1, (k + 1) + (scanB (badOf bad) (N - (k + 1)) (d.drop (512 * (k + 1))) (k + 1) (f + m)).2) ∧ rs.length = m ∧ 0 < m ∧ m ≤ 247 ∧ f + m < 18446744073709551616) := ⟨hsr, hRES2, hm, hcnt.1, hcnt.2.1, by have := hcnt.2.2; omega⟩
          have hfm : (f : Int) + (m : Int) ≤ 4611686018427387905 := by have := hcnt.2.2; omega
          have hm0 : (0 : Int) ≤ (m : Int) := by omega
          have hm247 : (m : Int) ≤ 247 := by have := hcnt.2.1; omega
          clear hRES hRES2 hd hcond hfuel hs1 hl1 e1 hlen hkN htb hg hs hN hl hcnt HR hm hsr hdue
          go_wp2_with fail
          refine hdec.mono ?_
          rintro e w2 ⟨⟨v2, us, rfl, hk2⟩, u2⟩
          clear hdec
          have hst := HS.out
          obtain ⟨ad2, c2, rfl⟩ := hk2.some (by intro e; have := hst.2.2.2.1; rw [← hst.2.2.1, e] at this; simp at this)
          have hus : us.length = m := hk2.len.trans hst.2.2.1
          have hrow := ownsRow_up hst.1.recs.row u2
          rw [hvr] at hrow
          have hrow2 := hk2.row
          have hone := hk2.one
          have hszz := (hst.1.up.trans u2).size
          have hbound : vs.length + us.length ≤ 5000000000000 := by rw [hst.1.recs.len, hus]; have := hst.1.cnt; omega
          have HK : Hid (Recs w2 wr.heap.size (.slice (some ad2) us.length c2) rs us ∧ Up wr w2) := ⟨hk2, u2⟩
          rw [hus]
          clear hst hk2 u2
          go_wp2_with (at_builtin; refine wpList_appV _ rfl (.tmp 42) (.tmp 43) rfl w.heap.size _ vs us rfl ad2 c2 (by rw [hus]; rfl) hrow hrow2.hat hone hszz hbound ?_)
          intro v' w' ho' hg'
          have hst := HS.out
          have hsr5 := hst.1.more HK.out.2 HK.out.1 (by rw [hst.2.2.1]; exact hst.2.2.2.2.1) ho' (by rw [hvr]; exact hg')
          have H5 : Hid (ScanR w w' v' (M ++ rs) (vs ++ us) (k + 1) ∧ RES = ((M ++ rs) ++ (scanB (badOf bad) (N - (k + 1)) (d.drop (512 * (k + 1))) (k + 1) (f + m)).1, (k + 1) + (scanB (badOf bad) (N - (k + 1)) (d.drop (512 * (k + 1))) (k + 1) (f + m)).2) ∧ f + m < 18446744073709551616) := ⟨hsr5, hst.2.1, hst.2.2.2.2.2⟩
          clear hsr5 hst HS HK ho' hg' hrow hrow2 hone hszz hbound
          go_wp2
          go_roundg (D - (k + 1))
          case measure => have := Hlt.out; omega
          case rel => exact ⟨k + 1, f + m, _, _, Hlt.out, rfl, by go_num, by go_num, H5⟩
        · have hR : RES = (M, k) := by rw [hRES]; simp only [if_neg hfd]; simp
          subst hR
          have hne : ((f : Int) == (due : Int)) = false := by simp only [beq_eq_false_iff_ne]; omega
          subst hvr
          clear hRES hd hcond hfuel hs1 hl1 e1 hlen hkN htb hg hs hN hl hcnt hfd
          go_wp2_with fail
          refine hdec.mono ?_
          rintro e w2 ⟨⟨v2, us, rfl, hk2⟩, u2⟩
          clear hdec
          have hrec := hsr.recs.up u2
          have hup := hsr.up.trans u2
          clear hsr HR HE HA hk2
          go_wp2
          go_ret2
          exact ⟨_, rfl, ⟨_, hrec⟩, hup⟩
    · obtain rfl : k = D := by omega
      obtain ⟨hsr, hRES, hdue⟩ := HR.out
      obtain ⟨_, _, hs, hN, hl⟩ := HA.out
      have hR : RES = (M, k) := by
        have hz : (scanB (badOf bad) (N - k) (d.drop (512 * k)) k due) = ([], 0) := by
          cases hq : N - k with
          | zero => rfl
          | succ q =>
            rw [scanB, if_pos]
            right
            exact HE.out.2.2 (by omega)
        rw [hRES, hz]; simp
      subst hR
      have hrec := hsr.recs
      have hup := hsr.up
      obtain ⟨av, cv, rfl⟩ := hsr.recs.slice
      clear hRES hsr HR HE HA hs hN hl hlt
      go_wp2
      go_ret2
      exact ⟨_, rfl, ⟨_, hrec⟩, hup⟩
end Go.Proofs.YtkfjkfpodkbkaaaDoor

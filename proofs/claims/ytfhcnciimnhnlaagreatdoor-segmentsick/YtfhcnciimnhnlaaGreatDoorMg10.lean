/- Merged: DkSync. -/
import Derived.Test.YtfhcnciimnhnlaaGreatDoorMg09
set_option linter.unusedVariables false
set_option linter.unusedSimpArgs false
namespace Go.Proofs.YtfhcnciimnhnlaaGreatDoor
open Go Go.RowKit

set_option maxRecDepth 20000 in
set_option maxHeartbeats 400000 in
theorem sync_any (base fb : Nat) (age : Int) (F : Fil) (L : List Nat) (w : World) (hF : FileAt w base fb age F L) (hok : F.Ok) (hbase : base ≤ w.heap.size) (hl : F.seen.data.length ≤ CB) :
    Calls Tryz.prog 161 #[.pointer (some ⟨fb, 0, none⟩)] w fun e w' => ∃ L', e = .returned (.tuple #[]) ∧ FileAt w' base fb age F.sync L' ∧ (∀ k ∈ L', k ∈ L ∨ w.heap.size ≤ k) ∧ Touch w w' L := by
  obtain ⟨vs, vsb, vf, vfb, hV, rfl⟩ := hF
  obtain ⟨ps, capS, rfl⟩ := hV.sd.slice
  obtain ⟨_, hcapS, _, hpn⟩ := hV.sd.cap
  have c1 : w.cell? ⟨fb, 1, none⟩ = some (.slice ps F.seen.data.length capS) := hV.box.cell 1
  have c5 : w.cell? ⟨fb, 5, none⟩ = some (.int .i64 (F.waits : Int)) := hV.box.cell 5
  have hwl := hok.wle
  have hlen := hok.len
  have hfew := hok.saf.few
  obtain ⟨E, hE⟩ : ∃ E, F.seen.data.length = E := ⟨_, rfl⟩
  obtain ⟨S, hS⟩ : ∃ S, min (512 * F.waits) E = S := ⟨_, rfl⟩
  obtain ⟨W5, hW5⟩ : ∃ W5 : Nat, 512 * F.waits = W5 := ⟨_, rfl⟩
  have hsync : F.sync = ⟨F.seen, F.safe.put S (F.seen.data.drop S), sec E⟩ := by unfold Fil.sync; rw [hE, hS]
  have hCBl : E ≤ 200000000000000 := by unfold CB at hl; omega
  have e1 : (F.waits : Int) * 512 = (W5 : Int) := by omega
  have hwb : F.waits ≤ sec 200000000000000 := by unfold sec at hwl ⊢; omega
  have e2 : (W5 : Int) ≤ 4611686018427387904 := by unfold sec at hwb; omega
  have e3 : (0 : Int) ≤ (W5 : Int) := by omega
  have e4 : min (W5 : Int) (E : Int) = (S : Int) := by omega
  have e5 : (S : Int) ≤ (E : Int) := by omega
  have e6 : (0 : Int) ≤ (S : Int) := by omega
  have e7 : (S : Int) ≤ 4611686018427387904 := by omega
  have hSE : S ≤ E := by omega
  have hSc : S ≤ capS := by omega
  have e8 : (S : Int) ≤ (capS : Int) := by omega
  have hsec := fun u => sectors_any E (by omega) u
  obtain ⟨Q, hQ⟩ : ∃ Q, sec E = Q := ⟨_, rfl⟩
  rw [hQ] at hsec hsync
  -- what is handed to put
  have hput : ∀ (A : Option Addr) (cA : Nat) (u : World), u.heap = w.heap → Sl 0 u (.slice A (E - S) cA) (F.seen.data.drop S) → (F.seen.data.drop S ≠ [] → ∃ g, ps = some ⟨g, 0, none⟩ ∧ A = some ⟨g, S, none⟩) →
      Calls Tryz.prog 140 #[.pointer (some ⟨fb, 3, none⟩), .int .i64 (S : Int), .slice A (E - S) cA] u fun e w' => ∃ vd' vb', e = .returned (.tuple #[]) ∧ InBox w' fb 3 (((fcells age (.slice ps F.seen.data.length capS) vsb vf vfb F.waits).setIfInBounds 3 vd').setIfInBounds (3 + 1) vb') base vd' vb' (F.safe.put S (F.seen.data.drop S)) ∧
        (∀ k ∈ ob vd', k ∈ ob vf ∨ u.heap.size ≤ k) ∧ ob vb' = ob vfb ∧ Touch u w' (fb :: ob vf ++ ob vfb) := fun A cA u hu hsl hA => by
    have hVu := hV.heap hu
    refine put_any base fb 3 S _ _ _ _ F.safe _ u hVu.saf hok.saf.rise (by rw [hu]; exact hbase) hsl (fun hne k hk => ?_) (by rw [List.length_drop, hE]; unfold CB; omega) (by unfold CB; omega) (by unfold sec at hfew; omega)
    obtain ⟨g, rfl, rfl⟩ := hA hne
    simp only [Value.ownBlock, Option.some.injEq] at hk
    subst hk
    have nd := hV.nd
    rw [List.nodup_cons, List.nodup_append] at nd
    refine ⟨fun hm => nd.2.2.2 g (by simp [ob, Value.ownBlock]) g (by simp [hm]) rfl, fun e => nd.1 (by simp [ob, Value.ownBlock, e])⟩
  have hsrc : (S < E → ∃ g, ps = some ⟨g, 0, none⟩) := fun h => by
    rcases hV.sd.parts with ⟨e, e2⟩ | ⟨g, cap', cur, e, _⟩
    · rw [e2] at hE; simp at hE; omega
    · simp only [Value.slice.injEq] at e; exact ⟨g, e.1⟩
  have hSl : ∀ (u : World), u.heap = w.heap → ∀ g, ps = some ⟨g, 0, none⟩ → S < E → Sl 0 u (.slice (some ⟨g, S, none⟩) (E - S) (capS - S)) (F.seen.data.drop S) := fun u hu g hg h => by
    have := OwnB.sl0 (ownsRow_heap hu hV.sd) S (by omega) g hg
    rw [hE] at this
    exact this
  have hdl : (F.seen.data.drop S).length = E - S := by rw [List.length_drop, hE]
  rw [hE] at c1
  have HA : Hid (FileV w base fb age (.slice ps F.seen.data.length capS) vsb vf vfb F ∧ F.sync = ⟨F.seen, F.safe.put S (F.seen.data.drop S), Q⟩ ∧ F.seen.data.length = E ∧ (F.seen.data.drop S).length = E - S) := ⟨hV, hsync, hE, hdl⟩
  have HP : Hid (∀ (A : Option Addr) (cA : Nat) (u : World), u.heap = w.heap → Sl 0 u (.slice A (E - S) cA) (F.seen.data.drop S) → (F.seen.data.drop S ≠ [] → ∃ g, ps = some ⟨g, 0, none⟩ ∧ A = some ⟨g, S, none⟩) →
      Calls Tryz.prog 140 #[.pointer (some ⟨fb, 3, none⟩), .int .i64 (S : Int), .slice A (E - S) cA] u fun e w' => ∃ vd' vb', e = .returned (.tuple #[]) ∧ InBox w' fb 3 (((fcells age (.slice ps F.seen.data.length capS) vsb vf vfb F.waits).setIfInBounds 3 vd').setIfInBounds (3 + 1) vb') base vd' vb' (F.safe.put S (F.seen.data.drop S)) ∧
        (∀ k ∈ ob vd', k ∈ ob vf ∨ u.heap.size ≤ k) ∧ ob vb' = ob vfb ∧ Touch u w' (fb :: ob vf ++ ob vfb)) := hput
  have HQ : Hid (∀ u, Calls Tryz.prog 138 #[.int .i64 (E : Int)] u fun e w' => e = .returned (.int .i64 (Q : Int)) ∧ w' = u) := hsec
  have hcE : E ≤ capS := by rw [← hE]; exact hcapS
  clear hput hsec hsync hdl hE hS hW5 hwb hCBl hfew hlen hwl hl hok hbase hQ hcapS
  rcases (show ps = none ∨ ∃ g, ps = some ⟨g, 0, none⟩ from by
    rcases hV.sd.parts with ⟨e, _⟩ | ⟨g, cap', cur, e, _⟩
    · simp only [Value.slice.injEq] at e; exact .inl e.1
    · simp only [Value.slice.injEq] at e; exact .inr ⟨g, e.1⟩) with rfl | ⟨g, rfl⟩
  · obtain rfl : capS = 0 := hpn rfl
    obtain rfl : E = 0 := by omega
    obtain rfl : S = 0 := by omega
    have h0 : F.seen.data.drop 0 = [] := List.eq_nil_of_length_eq_zero HA.out.2.2.2
    have HSL : Hid ((∀ (u : World), u.heap = w.heap → Sl 0 u (.slice none (0 - 0) (0 - 0)) (F.seen.data.drop 0)) ∧ (F.seen.data.drop 0 ≠ [] → ∃ g', (none : Option Addr) = some ⟨g', 0, none⟩ ∧ (none : Option Addr) = some ⟨g', 0, none⟩)) := by
      refine ⟨fun u hu => ?_, fun hne => absurd h0 hne⟩
      rw [h0]
      exact Sl.nil _ _
    have e4' : min (W5 : Int) 0 = 0 := by omega
    have HQ : Hid (∀ u, Calls Tryz.prog 138 #[.int .i64 0] u fun e w' => e = .returned (.int .i64 (Q : Int)) ∧ w' = u) := HQ.out
    have HP : Hid (∀ (A : Option Addr) (cA : Nat) (u : World), u.heap = w.heap → Sl 0 u (.slice A 0 cA) (F.seen.data.drop 0) → (F.seen.data.drop 0 ≠ [] → ∃ g, (none : Option Addr) = some ⟨g, 0, none⟩ ∧ A = some ⟨g, 0, none⟩) →
      Calls Tryz.prog 140 #[.pointer (some ⟨fb, 3, none⟩), .int .i64 0, .slice A 0 cA] u fun e w' => ∃ vd' vb', e = .returned (.tuple #[]) ∧ InBox w' fb 3 (((fcells age (.slice none F.seen.data.length 0) vsb vf vfb F.waits).setIfInBounds 3 vd').setIfInBounds (3 + 1) vb') base vd' vb' (F.safe.put 0 (F.seen.data.drop 0)) ∧
        (∀ k ∈ ob vd', k ∈ ob vf ∨ u.heap.size ≤ k) ∧ ob vb' = ob vfb ∧ Touch u w' (fb :: ob vf ++ ob vfb)) := HP.out
    clear e4 e5 e6 e7 e8 h0
    have HhV : Hid (FileV w base fb age (.slice none F.seen.data.length 0) vsb vf vfb F) := hV
    clear hsrc hSl hV
    go_enter Tryz.func161, Tryz.ntmps161
    go_wp2
    go_quiet (fail)
    go_wp2_with fail
    go_region_with (go_at_call 140; refine (HP.out none (0 - 0) (w.drewN (nq + 1)) rfl (HSL.out.1 (w.drewN (nq + 1)) rfl) HSL.out.2).mono ?_; rintro e w1 ⟨vd', vb', rfl, hI1, hf1, ho1, ht1⟩; have H1 : Hid (InBox w1 fb 3 (fcells age (.slice none F.seen.data.length 0) vsb vd' vb' F.waits) base vd' vb' (F.safe.put 0 (F.seen.data.drop 0)) ∧ (∀ k ∈ ob vd', k ∈ ob vf ∨ w.heap.size ≤ k) ∧ ob vb' = ob vfb ∧ Touch w w1 (fb :: ob vf ++ ob vfb)) := ⟨hI1, hf1, ho1, (Touch.of_up (up_drewN w (nq + 1)) _).trans ht1 (fun k hk => .inl hk)⟩; clear hI1 hf1 ho1 ht1)
    have c11 : w1.cell? ⟨fb, 1, none⟩ = some (.slice none 0 0) := by
      have hb := H1.out.1.box.cell 1
      rw [show (fcells age (Value.slice none F.seen.data.length 0) vsb vd' vb' F.waits)[1]? = some (.slice none F.seen.data.length 0) from rfl, HA.out.2.2.1] at hb; exact hb
    have c15 : w1.cell? ⟨fb, 5, none⟩ = some (.int .i64 (F.waits : Int)) := H1.out.1.box.cell 5
    have f15 : w1.frozen? ⟨fb, 5, none⟩ = false := H1.out.1.box.frozen 5
    go_wp2_with (go_at_call 138; refine (HQ.out _).mono ?_; rintro e w2 ⟨rfl, rfl⟩)
    go_end0
    obtain ⟨hI2, hf1, ho1, ht1⟩ := H1.out
    obtain ⟨r1, r2, r3⟩ := HhV.out.safe_put (k := Q) hI2 hf1 (fun k hk => .inl (ho1 ▸ hk)) ht1 rfl
    exact ⟨_, rfl, ⟨_, vsb, vd', vb', by rw [HA.out.2.1]; exact r1, rfl⟩, r3, r2⟩
  · by_cases k2 : capS = S
    · subst k2
      obtain rfl : E = capS := by omega
      have h0 : F.seen.data.drop E = [] := List.eq_nil_of_length_eq_zero (by rw [HA.out.2.2.2]; omega)
      have HP : Hid (∀ (A : Option Addr) (cA : Nat) (u : World), u.heap = w.heap → Sl 0 u (.slice A 0 cA) (F.seen.data.drop E) → (F.seen.data.drop E ≠ [] → ∃ g', some (⟨g, 0, none⟩ : Addr) = some ⟨g', 0, none⟩ ∧ A = some ⟨g', E, none⟩) →
        Calls Tryz.prog 140 #[.pointer (some ⟨fb, 3, none⟩), .int .i64 (E : Int), .slice A 0 cA] u fun e w' => ∃ vd' vb', e = .returned (.tuple #[]) ∧ InBox w' fb 3 (((fcells age (.slice (some ⟨g, 0, none⟩) F.seen.data.length E) vsb vf vfb F.waits).setIfInBounds 3 vd').setIfInBounds (3 + 1) vb') base vd' vb' (F.safe.put E (F.seen.data.drop E)) ∧
          (∀ k ∈ ob vd', k ∈ ob vf ∨ u.heap.size ≤ k) ∧ ob vb' = ob vfb ∧ Touch u w' (fb :: ob vf ++ ob vfb)) := by
        have h := HP.out
        simp only [Nat.sub_self] at h
        exact h
      have HSL : Hid ((∀ (u : World), u.heap = w.heap → Sl 0 u (.slice (some ⟨g, 0, none⟩) 0 0) (F.seen.data.drop E)) ∧ (F.seen.data.drop E ≠ [] → ∃ g', some (⟨g, 0, none⟩ : Addr) = some ⟨g', 0, none⟩ ∧ some (⟨g, 0, none⟩ : Addr) = some ⟨g', E, none⟩)) := by
        refine ⟨fun u hu => ?_, fun hne => absurd h0 hne⟩
        rw [h0]
        exact ⟨_, _, rfl, Nat.le_refl _, (by intro e; cases e), fun h => absurd rfl h⟩
      clear h0
      have HhV : Hid (FileV w base fb age (.slice (some ⟨g, 0, none⟩) F.seen.data.length E) vsb vf vfb F) := hV
      clear hsrc hSl hV
      go_enter Tryz.func161, Tryz.ntmps161
      go_wp2
      go_quiet (fail)
      go_wp2_with fail
      go_region_with (go_at_call 140; refine (HP.out (some ⟨g, 0, none⟩) 0 (w.drewN (nq + 1)) rfl (HSL.out.1 (w.drewN (nq + 1)) rfl) HSL.out.2).mono ?_; rintro e w1 ⟨vd', vb', rfl, hI1, hf1, ho1, ht1⟩; have H1 : Hid (InBox w1 fb 3 (fcells age (.slice (some ⟨g, 0, none⟩) F.seen.data.length E) vsb vd' vb' F.waits) base vd' vb' (F.safe.put E (F.seen.data.drop E)) ∧ (∀ k ∈ ob vd', k ∈ ob vf ∨ w.heap.size ≤ k) ∧ ob vb' = ob vfb ∧ Touch w w1 (fb :: ob vf ++ ob vfb)) := ⟨hI1, hf1, ho1, (Touch.of_up (up_drewN w (nq + 1)) _).trans ht1 (fun k hk => .inl hk)⟩; clear hI1 hf1 ho1 ht1)
      have c11 : w1.cell? ⟨fb, 1, none⟩ = some (.slice (some ⟨g, 0, none⟩) E E) := by
        have hb := H1.out.1.box.cell 1
        rw [show (fcells age (Value.slice (some ⟨g, 0, none⟩) F.seen.data.length E) vsb vd' vb' F.waits)[1]? = some (.slice (some ⟨g, 0, none⟩) F.seen.data.length E) from rfl, HA.out.2.2.1] at hb; exact hb
      have c15 : w1.cell? ⟨fb, 5, none⟩ = some (.int .i64 (F.waits : Int)) := H1.out.1.box.cell 5
      have f15 : w1.frozen? ⟨fb, 5, none⟩ = false := H1.out.1.box.frozen 5
      go_wp2_with (go_at_call 138; refine (HQ.out _).mono ?_; rintro e w2 ⟨rfl, rfl⟩)
      go_end0
      obtain ⟨hI2, hf1, ho1, ht1⟩ := H1.out
      obtain ⟨r1, r2, r3⟩ := HhV.out.safe_put (k := Q) hI2 hf1 (fun k hk => .inl (ho1 ▸ hk)) ht1 rfl
      exact ⟨_, rfl, ⟨_, vsb, vd', vb', by rw [HA.out.2.1]; exact r1, rfl⟩, r3, r2⟩
    · have HSL : Hid ((∀ (u : World), u.heap = w.heap → Sl 0 u (.slice (some ⟨g, S, none⟩) (E - S) (capS - S)) (F.seen.data.drop S)) ∧ (F.seen.data.drop S ≠ [] → ∃ g', some (⟨g, 0, none⟩ : Addr) = some ⟨g', 0, none⟩ ∧ some (⟨g, S, none⟩ : Addr) = some ⟨g', S, none⟩)) := by
        refine ⟨fun u hu => ?_, fun _ => ⟨g, rfl, rfl⟩⟩
        by_cases h : S < E
        · exact hSl u hu g rfl h
        · have h0 : F.seen.data.drop S = [] := List.eq_nil_of_length_eq_zero (by rw [HA.out.2.2.2]; omega)
          rw [h0, show E - S = 0 by omega]
          exact ⟨_, _, rfl, Nat.zero_le _, (by intro e; cases e), fun h => absurd rfl h⟩
      have HhV : Hid (FileV w base fb age (.slice (some ⟨g, 0, none⟩) F.seen.data.length capS) vsb vf vfb F) := hV
      clear hsrc hSl hV
      go_enter Tryz.func161, Tryz.ntmps161
      go_wp2
      go_quiet (fail)
      go_wp2_with fail
      go_region_with (go_at_call 140; refine (HP.out (some ⟨g, S, none⟩) (capS - S) (w.drewN (nq + 1)) rfl (HSL.out.1 (w.drewN (nq + 1)) rfl) HSL.out.2).mono ?_; rintro e w1 ⟨vd', vb', rfl, hI1, hf1, ho1, ht1⟩; have H1 : Hid (InBox w1 fb 3 (fcells age (.slice (some ⟨g, 0, none⟩) F.seen.data.length capS) vsb vd' vb' F.waits) base vd' vb' (F.safe.put S (F.seen.data.drop S)) ∧ (∀ k ∈ ob vd', k ∈ ob vf ∨ w.heap.size ≤ k) ∧ ob vb' = ob vfb ∧ Touch w w1 (fb :: ob vf ++ ob vfb)) := ⟨hI1, hf1, ho1, (Touch.of_up (up_drewN w (nq + 1)) _).trans ht1 (fun k hk => .inl hk)⟩; clear hI1 hf1 ho1 ht1)
      have c11 : w1.cell? ⟨fb, 1, none⟩ = some (.slice (some ⟨g, 0, none⟩) E capS) := by
        have hb := H1.out.1.box.cell 1
        rw [show (fcells age (Value.slice (some ⟨g, 0, none⟩) F.seen.data.length capS) vsb vd' vb' F.waits)[1]? = some (.slice (some ⟨g, 0, none⟩) F.seen.data.length capS) from rfl, HA.out.2.2.1] at hb; exact hb
      have c15 : w1.cell? ⟨fb, 5, none⟩ = some (.int .i64 (F.waits : Int)) := H1.out.1.box.cell 5
      have f15 : w1.frozen? ⟨fb, 5, none⟩ = false := H1.out.1.box.frozen 5
      go_wp2_with (go_at_call 138; refine (HQ.out _).mono ?_; rintro e w2 ⟨rfl, rfl⟩)
      go_end0
      obtain ⟨hI2, hf1, ho1, ht1⟩ := H1.out
      obtain ⟨r1, r2, r3⟩ := HhV.out.safe_put (k := Q) hI2 hf1 (fun k hk => .inl (ho1 ▸ hk)) ht1 rfl
      exact ⟨_, rfl, ⟨_, vsb, vd', vb', by rw [HA.out.2.1]; exact r1, rfl⟩, r3, r2⟩

end Go.Proofs.YtfhcnciimnhnlaaGreatDoor

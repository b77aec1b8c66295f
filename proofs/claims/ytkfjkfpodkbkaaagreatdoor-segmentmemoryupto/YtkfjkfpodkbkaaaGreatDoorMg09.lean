/- Merged: DkSync, DkFcut, DkClone. -/
import Derived.Test.YtkfjkfpodkbkaaaGreatDoorMg08
set_option linter.unusedVariables false
set_option linter.unusedSimpArgs false
namespace Go.Proofs.YtkfjkfpodkbkaaaGreatDoor
open Go Go.RowKit

set_option maxRecDepth 20000 in
set_option maxHeartbeats 400000 in
theorem sync_any (base fb : Nat) (age : Int) (F : Fil) (L : List Nat) (w : World) (hF : FileAt w base fb age F L) (hok : F.Ok) (hbase : base ≤ w.heap.size) (hl : F.seen.data.length ≤ CB) :
    Calls Tryz.prog 92 #[.pointer (some ⟨fb, 0, none⟩)] w fun e w' => ∃ L', e = .returned (.tuple #[]) ∧ FileAt w' base fb age F.sync L' ∧ (∀ k ∈ L', k ∈ L ∨ w.heap.size ≤ k) ∧ Touch w w' L := by
  obtain ⟨vs, vsb, vf, vfb, hV, rfl⟩ := hF
  obtain ⟨ps, capS, rfl⟩ := hV.sd.slice
  obtain ⟨_, hcapS, _, hpn⟩ := hV.sd.cap
  have c1 : w.cell? ⟨fb, 1, none⟩ = some (.slice ps F.seen.data.length capS) := hV.box.cell 1
  have c5 : w.cell? ⟨fb, 5, none⟩ = some (.int .i64 (F.waits : Int)) := hV.box.cell 5
  have hwl := hok.wle
  have hlen := hok.len
  have hfew := hok.saf.few
  obtain ⟨E, hE⟩ : ∃ E, F.seen.data.length = E := ⟨_, rfl⟩
  obtain ⟨S, hS⟩ : ∃ S, min (512 * F.waits) E = S := ⟨_, rfl⟩
  obtain ⟨W5, hW5⟩ : ∃ W5 : Nat, 512 * F.waits = W5 := ⟨_, rfl⟩
  have hsync : F.sync = ⟨F.seen, F.safe.put S (F.seen.data.drop S), sec E⟩ := by unfold Fil.sync; rw [hE, hS]
  have hCBl : E ≤ 200000000000000 := by unfold CB at hl; omega
  have e1 : (F.waits : Int) * 512 = (W5 : Int) := by omega
  have hwb : F.waits ≤ sec 200000000000000 := by unfold sec at hwl ⊢; omega
  have e2 : (W5 : Int) ≤ 4611686018427387904 := by unfold sec at hwb; omega
  have e3 : (0 : Int) ≤ (W5 : Int) := by omega
  have e4 : min (W5 : Int) (E : Int) = (S : Int) := by omega
  have e5 : (S : Int) ≤ (E : Int) := by omega
  have e6 : (0 : Int) ≤ (S : Int) := by omega
  have e7 : (S : Int) ≤ 4611686018427387904 := by omega
  have hSE : S ≤ E := by omega
  have hSc : S ≤ capS := by omega
  have e8 : (S : Int) ≤ (capS : Int) := by omega
  have hsec := fun u => sectors_any E (by omega) u
  obtain ⟨Q, hQ⟩ : ∃ Q, sec E = Q := ⟨_, rfl⟩
  rw [hQ] at hsec hsync
  -- what is handed to put
  have hput : ∀ (A : Option Addr) (cA : Nat) (u : World), u.heap = w.heap → Sl 0 u (.slice A (E - S) cA) (F.seen.data.drop S) → (F.seen.data.drop S ≠ [] → ∃ g, ps = some ⟨g, 0, none⟩ ∧ A = some ⟨g, S, none⟩) →
      Calls Tryz.prog 101 #[.pointer (some ⟨fb, 3, none⟩), .int .i64 (S : Int), .slice A (E - S) cA] u fun e w' => ∃ vd' vb', e = .returned (.tuple #[]) ∧ InBox w' fb 3 (((fcells age (.slice ps F.seen.data.length capS) vsb vf vfb F.waits).setIfInBounds 3 vd').setIfInBounds (3 + 1) vb') base vd' vb' (F.safe.put S (F.seen.data.drop S)) ∧
        (∀ k ∈ ob vd', k ∈ ob vf ∨ u.heap.size ≤ k) ∧ ob vb' = ob vfb ∧ Touch u w' (fb :: ob vf ++ ob vfb) := fun A cA u hu hsl hA => by
    have hVu := hV.heap hu
    refine put_any base fb 3 S _ _ _ _ F.safe _ u hVu.saf hok.saf.rise (by rw [hu]; exact hbase) hsl (fun hne k hk => ?_) (by rw [List.length_drop, hE]; unfold CB; omega) (by unfold CB; omega) (by unfold sec at hfew; omega)
    obtain ⟨g, rfl, rfl⟩ := hA hne
    simp only [Value.ownBlock, Option.some.injEq] at hk
    subst hk
    have nd := hV.nd
    rw [List.nodup_cons, List.nodup_append] at nd
    refine ⟨fun hm => nd.2.2.2 g (by simp [ob, Value.ownBlock]) g (by simp [hm]) rfl, fun e => nd.1 (by simp [ob, Value.ownBlock, e])⟩
  have hsrc : (S < E → ∃ g, ps = some ⟨g, 0, none⟩) := fun h => by
    rcases hV.sd.parts with ⟨e, e2⟩ | ⟨g, cap', cur, e, _⟩
    · rw [e2] at hE; simp at hE; omega
    · simp only [Value.slice.injEq] at e; exact ⟨g, e.1⟩
  have hSl : ∀ (u : World), u.heap = w.heap → ∀ g, ps = some ⟨g, 0, none⟩ → S < E → Sl 0 u (.slice (some ⟨g, S, none⟩) (E - S) (capS - S)) (F.seen.data.drop S) := fun u hu g hg h => by
    have := OwnB.sl0 (ownsRow_heap hu hV.sd) S (by omega) g hg
    rw [hE] at this
    exact this
  have hdl : (F.seen.data.drop S).length = E - S := by rw [List.length_drop, hE]
  rw [hE] at c1
  have HA : Hid (FileV w base fb age (.slice ps F.seen.data.length capS) vsb vf vfb F ∧ F.sync = ⟨F.seen, F.safe.put S (F.seen.data.drop S), Q⟩ ∧ F.seen.data.length = E ∧ (F.seen.data.drop S).length = E - S) := ⟨hV, hsync, hE, hdl⟩
  have HP : Hid (∀ (A : Option Addr) (cA : Nat) (u : World), u.heap = w.heap → Sl 0 u (.slice A (E - S) cA) (F.seen.data.drop S) → (F.seen.data.drop S ≠ [] → ∃ g, ps = some ⟨g, 0, none⟩ ∧ A = some ⟨g, S, none⟩) →
      Calls Tryz.prog 101 #[.pointer (some ⟨fb, 3, none⟩), .int .i64 (S : Int), .slice A (E - S) cA] u fun e w' => ∃ vd' vb', e = .returned (.tuple #[]) ∧ InBox w' fb 3 (((fcells age (.slice ps F.seen.data.length capS) vsb vf vfb F.waits).setIfInBounds 3 vd').setIfInBounds (3 + 1) vb') base vd' vb' (F.safe.put S (F.seen.data.drop S)) ∧
        (∀ k ∈ ob vd', k ∈ ob vf ∨ u.heap.size ≤ k) ∧ ob vb' = ob vfb ∧ Touch u w' (fb :: ob vf ++ ob vfb)) := hput
  have HQ : Hid (∀ u, Calls Tryz.prog 94 #[.int .i64 (E : Int)] u fun e w' => e = .returned (.int .i64 (Q : Int)) ∧ w' = u) := hsec
  have hcE : E ≤ capS := by rw [← hE]; exact hcapS
  clear hput hsec hsync hdl hE hS hW5 hwb hCBl hfew hlen hwl hl hok hbase hQ hcapS
  rcases (show ps = none ∨ ∃ g, ps = some ⟨g, 0, none⟩ from by
    rcases hV.sd.parts with ⟨e, _⟩ | ⟨g, cap', cur, e, _⟩
    · simp only [Value.slice.injEq] at e; exact .inl e.1
    · simp only [Value.slice.injEq] at e; exact .inr ⟨g, e.1⟩) with rfl | ⟨g, rfl⟩
  · obtain rfl : capS = 0 := hpn rfl
    obtain rfl : E = 0 := by omega
    obtain rfl : S = 0 := by omega
    have h0 : F.seen.data.drop 0 = [] := List.eq_nil_of_length_eq_zero HA.out.2.2.2
    have HSL : Hid ((∀ (u : World), u.heap = w.heap → Sl 0 u (.slice none (0 - 0) (0 - 0)) (F.seen.data.drop 0)) ∧ (F.seen.data.drop 0 ≠ [] → ∃ g', (none : Option Addr) = some ⟨g', 0, none⟩ ∧ (none : Option Addr) = some ⟨g', 0, none⟩)) := by
      refine ⟨fun u hu => ?_, fun hne => absurd h0 hne⟩
      rw [h0]
      exact Sl.nil _ _
    have e4' : min (W5 : Int) 0 = 0 := by omega
    have HQ : Hid (∀ u, Calls Tryz.prog 94 #[.int .i64 0] u fun e w' => e = .returned (.int .i64 (Q : Int)) ∧ w' = u) := HQ.out
    have HP : Hid (∀ (A : Option Addr) (cA : Nat) (u : World), u.heap = w.heap → Sl 0 u (.slice A 0 cA) (F.seen.data.drop 0) → (F.seen.data.drop 0 ≠ [] → ∃ g, (none : Option Addr) = some ⟨g, 0, none⟩ ∧ A = some ⟨g, 0, none⟩) →
      Calls Tryz.prog 101 #[.pointer (some ⟨fb, 3, none⟩), .int .i64 0, .slice A 0 cA] u fun e w' => ∃ vd' vb', e = .returned (.tuple #[]) ∧ InBox w' fb 3 (((fcells age (.slice none F.seen.data.length 0) vsb vf vfb F.waits).setIfInBounds 3 vd').setIfInBounds (3 + 1) vb') base vd' vb' (F.safe.put 0 (F.seen.data.drop 0)) ∧
        (∀ k ∈ ob vd', k ∈ ob vf ∨ u.heap.size ≤ k) ∧ ob vb' = ob vfb ∧ Touch u w' (fb :: ob vf ++ ob vfb)) := HP.out
    clear e4 e5 e6 e7 e8 h0
    have HhV : Hid (FileV w base fb age (.slice none F.seen.data.length 0) vsb vf vfb F) := hV
    clear hsrc hSl hV
    go_enter Tryz.func92, Tryz.ntmps92
    go_wp2
    go_quiet (fail)
    go_wp2_with fail
    go_region_with (go_at_call 101; refine (HP.out none (0 - 0) (w.drewN (nq + 1)) rfl (HSL.out.1 (w.drewN (nq + 1)) rfl) HSL.out.2).mono ?_; rintro e w1 ⟨vd', vb', rfl, hI1, hf1, ho1, ht1⟩; have H1 : Hid (InBox w1 fb 3 (fcells age (.slice none F.seen.data.length 0) vsb vd' vb' F.waits) base vd' vb' (F.safe.put 0 (F.seen.data.drop 0)) ∧ (∀ k ∈ ob vd', k ∈ ob vf ∨ w.heap.size ≤ k) ∧ ob vb' = ob vfb ∧ Touch w w1 (fb :: ob vf ++ ob vfb)) := ⟨hI1, hf1, ho1, (Touch.of_up (up_drewN w (nq + 1)) _).trans ht1 (fun k hk => .inl hk)⟩; clear hI1 hf1 ho1 ht1)
    have c11 : w1.cell? ⟨fb, 1, none⟩ = some (.slice none 0 0) := by
      have hb := H1.out.1.box.cell 1
      rw [show (fcells age (Value.slice none F.seen.data.length 0) vsb vd' vb' F.waits)[1]? = some (.slice none F.seen.data.length 0) from rfl, HA.out.2.2.1] at hb; exact hb
    have c15 : w1.cell? ⟨fb, 5, none⟩ = some (.int .i64 (F.waits : Int)) := H1.out.1.box.cell 5
    have f15 : w1.frozen? ⟨fb, 5, none⟩ = false := H1.out.1.box.frozen 5
    go_wp2_with (go_at_call 94; refine (HQ.out _).mono ?_; rintro e w2 ⟨rfl, rfl⟩)
    go_end0
    obtain ⟨hI2, hf1, ho1, ht1⟩ := H1.out
    obtain ⟨r1, r2, r3⟩ := HhV.out.safe_put (k := Q) hI2 hf1 (fun k hk => .inl (ho1 ▸ hk)) ht1 rfl
    exact ⟨_, rfl, ⟨_, vsb, vd', vb', by rw [HA.out.2.1]; exact r1, rfl⟩, r3, r2⟩
  · by_cases k2 : capS = S
    · subst k2
      obtain rfl : E = capS := by omega
      have h0 : F.seen.data.drop E = [] := List.eq_nil_of_length_eq_zero (by rw [HA.out.2.2.2]; omega)
      have HP : Hid (∀ (A : Option Addr) (cA : Nat) (u : World), u.heap = w.heap → Sl 0 u (.slice A 0 cA) (F.seen.data.drop E) → (F.seen.data.drop E ≠ [] → ∃ g', some (⟨g, 0, none⟩ : Addr) = some ⟨g', 0, none⟩ ∧ A = some ⟨g', E, none⟩) →
        Calls Tryz.prog 101 #[.pointer (some ⟨fb, 3, none⟩), .int .i64 (E : Int), .slice A 0 cA] u fun e w' => ∃ vd' vb', e = .returned (.tuple #[]) ∧ InBox w' fb 3 (((fcells age (.slice (some ⟨g, 0, none⟩) F.seen.data.length E) vsb vf vfb F.waits).setIfInBounds 3 vd').setIfInBounds (3 + 1) vb') base vd' vb' (F.safe.put E (F.seen.data.drop E)) ∧
          (∀ k ∈ ob vd', k ∈ ob vf ∨ u.heap.size ≤ k) ∧ ob vb' = ob vfb ∧ Touch u w' (fb :: ob vf ++ ob vfb)) := by
        have h := HP.out
        simp only [Nat.sub_self] at h
        exact h
      have HSL : Hid ((∀ (u : World), u.heap = w.heap → Sl 0 u (.slice (some ⟨g, 0, none⟩) 0 0) (F.seen.data.drop E)) ∧ (F.seen.data.drop E ≠ [] → ∃ g', some (⟨g, 0, none⟩ : Addr) = some ⟨g', 0, none⟩ ∧ some (⟨g, 0, none⟩ : Addr) = some ⟨g', E, none⟩)) := by
        refine ⟨fun u hu => ?_, fun hne => absurd h0 hne⟩
        rw [h0]
        exact ⟨_, _, rfl, Nat.le_refl _, (by intro e; cases e), fun h => absurd rfl h⟩
      clear h0
      have HhV : Hid (FileV w base fb age (.slice (some ⟨g, 0, none⟩) F.seen.data.length E) vsb vf vfb F) := hV
      clear hsrc hSl hV
      go_enter Tryz.func92, Tryz.ntmps92
      go_wp2
      go_quiet (fail)
      go_wp2_with fail
      go_region_with (go_at_call 101; refine (HP.out (some ⟨g, 0, none⟩) 0 (w.drewN (nq + 1)) rfl (HSL.out.1 (w.drewN (nq + 1)) rfl) HSL.out.2).mono ?_; rintro e w1 ⟨vd', vb', rfl, hI1, hf1, ho1, ht1⟩; have H1 : Hid (InBox w1 fb 3 (fcells age (.slice (some ⟨g, 0, none⟩) F.seen.data.length E) vsb vd' vb' F.waits) base vd' vb' (F.safe.put E (F.seen.data.drop E)) ∧ (∀ k ∈ ob vd', k ∈ ob vf ∨ w.heap.size ≤ k) ∧ ob vb' = ob vfb ∧ Touch w w1 (fb :: ob vf ++ ob vfb)) := ⟨hI1, hf1, ho1, (Touch.of_up (up_drewN w (nq + 1)) _).trans ht1 (fun k hk => .inl hk)⟩; clear hI1 hf1 ho1 ht1)
      have c11 : w1.cell? ⟨fb, 1, none⟩ = some (.slice (some ⟨g, 0, none⟩) E E) := by
        have hb := H1.out.1.box.cell 1
        rw [show (fcells age (Value.slice (some ⟨g, 0, none⟩) F.seen.data.length E) vsb vd' vb' F.waits)[1]? = some (.slice (some ⟨g, 0, none⟩) F.seen.data.length E) from rfl, HA.out.2.2.1] at hb; exact hb
      have c15 : w1.cell? ⟨fb, 5, none⟩ = some (.int .i64 (F.waits : Int)) := H1.out.1.box.cell 5
      have f15 : w1.frozen? ⟨fb, 5, none⟩ = false := H1.out.1.box.frozen 5
      go_wp2_with (go_at_call 94; refine (HQ.out _).mono ?_; rintro e w2 ⟨rfl, rfl⟩)
      go_end0
      obtain ⟨hI2, hf1, ho1, ht1⟩ := H1.out
      obtain ⟨r1, r2, r3⟩ := HhV.out.safe_put (k := Q) hI2 hf1 (fun k hk => .inl (ho1 ▸ hk)) ht1 rfl
      exact ⟨_, rfl, ⟨_, vsb, vd', vb', by rw [HA.out.2.1]; exact r1, rfl⟩, r3, r2⟩
    · have HSL : Hid ((∀ (u : World), u.heap = w.heap → Sl 0 u (.slice (some ⟨g, S, none⟩) (E - S) (capS - S)) (F.seen.data.drop S)) ∧ (F.seen.data.drop S ≠ [] → ∃ g', some (⟨g, 0, none⟩ : Addr) = some ⟨g', 0, none⟩ ∧ some (⟨g, S, none⟩ : Addr) = some ⟨g', S, none⟩)) := by
        refine ⟨fun u hu => ?_, fun _ => ⟨g, rfl, rfl⟩⟩
        by_cases h : S < E
        · exact hSl u hu g rfl h
        · have h0 : F.seen.data.drop S = [] := List.eq_nil_of_length_eq_zero (by rw [HA.out.2.2.2]; omega)
          rw [h0, show E - S = 0 by omega]
          exact ⟨_, _, rfl, Nat.zero_le _, (by intro e; cases e), fun h => absurd rfl h⟩
      have HhV : Hid (FileV w base fb age (.slice (some ⟨g, 0, none⟩) F.seen.data.length capS) vsb vf vfb F) := hV
      clear hsrc hSl hV
      go_enter Tryz.func92, Tryz.ntmps92
      go_wp2
      go_quiet (fail)
      go_wp2_with fail
      go_region_with (go_at_call 101; refine (HP.out (some ⟨g, S, none⟩) (capS - S) (w.drewN (nq + 1)) rfl (HSL.out.1 (w.drewN (nq + 1)) rfl) HSL.out.2).mono ?_; rintro e w1 ⟨vd', vb', rfl, hI1, hf1, ho1, ht1⟩; have H1 : Hid (InBox w1 fb 3 (fcells age (.slice (some ⟨g, 0, none⟩) F.seen.data.length capS) vsb vd' vb' F.waits) base vd' vb' (F.safe.put S (F.seen.data.drop S)) ∧ (∀ k ∈ ob vd', k ∈ ob vf ∨ w.heap.size ≤ k) ∧ ob vb' = ob vfb ∧ Touch w w1 (fb :: ob vf ++ ob vfb)) := ⟨hI1, hf1, ho1, (Touch.of_up (up_drewN w (nq + 1)) _).trans ht1 (fun k hk => .inl hk)⟩; clear hI1 hf1 ho1 ht1)
      have c11 : w1.cell? ⟨fb, 1, none⟩ = some (.slice (some ⟨g, 0, none⟩) E capS) := by
        have hb := H1.out.1.box.cell 1
        rw [show (fcells age (Value.slice (some ⟨g, 0, none⟩) F.seen.data.length capS) vsb vd' vb' F.waits)[1]? = some (.slice (some ⟨g, 0, none⟩) F.seen.data.length capS) from rfl, HA.out.2.2.1] at hb; exact hb
      have c15 : w1.cell? ⟨fb, 5, none⟩ = some (.int .i64 (F.waits : Int)) := H1.out.1.box.cell 5
      have f15 : w1.frozen? ⟨fb, 5, none⟩ = false := H1.out.1.box.frozen 5
      go_wp2_with (go_at_call 94; refine (HQ.out _).mono ?_; rintro e w2 ⟨rfl, rfl⟩)
      go_end0
      obtain ⟨hI2, hf1, ho1, ht1⟩ := H1.out
      obtain ⟨r1, r2, r3⟩ := HhV.out.safe_put (k := Q) hI2 hf1 (fun k hk => .inl (ho1 ▸ hk)) ht1 rfl
      exact ⟨_, rfl, ⟨_, vsb, vd', vb', by rw [HA.out.2.1]; exact r1, rfl⟩, r3, r2⟩

end Go.Proofs.YtkfjkfpodkbkaaaGreatDoor

set_option linter.unusedVariables false
set_option linter.unusedSimpArgs false
namespace Go.Proofs.YtkfjkfpodkbkaaaGreatDoor
open Go Go.RowKit

set_option maxRecDepth 20000 in
set_option maxHeartbeats 400000 in
theorem fcut_any (base fb : Nat) (age : Int) (F : Fil) (L : List Nat) (n : Nat) (w : World) (hF : FileAt w base fb age F L) (hok : F.Ok) (hn : n ≤ CB) (hl : F.seen.data.length ≤ CB) :
    Calls Tryz.prog 122 #[.pointer (some ⟨fb, 0, none⟩), .int .i64 (n : Int)] w fun e w' => ∃ L', e = .returned (.tuple #[]) ∧ FileAt w' base fb age (F.cut n) L' ∧ (∀ k ∈ L', k ∈ L ∨ w.heap.size ≤ k) ∧ Touch w w' L := by
  obtain ⟨vs, vsb, vf, vfb, hV, rfl⟩ := hF
  have f1 := hok.see.few
  have f2 := hok.saf.few
  have hlen := hok.len
  have b1 : F.seen.bad.length ≤ 10000000000000 := by unfold CB at hl; unfold sec at f1; omega
  have b2 : F.safe.bad.length ≤ 10000000000000 := by unfold CB at hl; unfold sec at f2; omega
  have k1 := cut_any base fb 1 n _ _ _ F.seen w hV.see hok.see.rise hn b1
  have k2 := fun u (fs : Value) (fsb : Value) (S : Con) (hu : FileV u base fb age fs fsb vf vfb ⟨S, F.safe, F.waits⟩) => cut_any base fb 3 n _ _ _ F.safe u hu.saf hok.saf.rise hn b2
  have hcut : F.cut n = ⟨F.seen.cut n, F.safe.cut n, min F.waits (n / 512)⟩ := rfl
  obtain ⟨Q, hQ⟩ : ∃ Q : Nat, n / 512 = Q := ⟨_, rfl⟩
  have e1 : (n : Int) / 512 = (Q : Int) := by omega
  obtain ⟨M, hM⟩ : ∃ M : Nat, min F.waits Q = M := ⟨_, rfl⟩
  have e2 : min (F.waits : Int) (Q : Int) = (M : Int) := by omega
  rw [hQ, hM] at hcut
  have e3 : (n : Int) ≤ 4611686018427387904 := by unfold CB at hn; omega
  have e4 : (0 : Int) ≤ (n : Int) := by omega
  have e5 : (Q : Int) ≤ 4611686018427387904 := by omega
  have e6 : (0 : Int) ≤ (Q : Int) := by omega
  have HA : Hid (FileV w base fb age vs vsb vf vfb F ∧ F.cut n = ⟨F.seen.cut n, F.safe.cut n, M⟩) := ⟨hV, hcut⟩
  have K1 : Hid (Calls Tryz.prog 156 #[.pointer (some ⟨fb, 1, none⟩), .int .i64 (n : Int)] w fun e w' => ∃ vd' vb', e = .returned (.tuple #[]) ∧ InBox w' fb 1 (((fcells age vs vsb vf vfb F.waits).setIfInBounds 1 vd').setIfInBounds (1 + 1) vb') base vd' vb' (F.seen.cut n) ∧ ob vd' = ob vs ∧ ob vb' = ob vsb ∧ Touch w w' [fb]) := k1
  have K2 : Hid (∀ u (fs : Value) (fsb : Value) (S : Con) (hu : FileV u base fb age fs fsb vf vfb ⟨S, F.safe, F.waits⟩), Calls Tryz.prog 156 #[.pointer (some ⟨fb, 3, none⟩), .int .i64 (n : Int)] u fun e w' => ∃ vd' vb', e = .returned (.tuple #[]) ∧ InBox w' fb 3 (((fcells age fs fsb vf vfb F.waits).setIfInBounds 3 vd').setIfInBounds (3 + 1) vb') base vd' vb' (F.safe.cut n) ∧ ob vd' = ob vf ∧ ob vb' = ob vfb ∧ Touch u w' [fb]) := k2
  clear k1 k2 hV hok f1 f2 hlen b1 b2 hn hl hcut hQ hM
  go_enter Tryz.func122, Tryz.ntmps122
  go_wp2_with fail
  refine K1.out.mono ?_
  rintro e w1 ⟨vd1, vb1, rfl, hI1, ho1, ho2, ht1⟩
  obtain ⟨hV, hcut⟩ := HA.out
  have tt : Touch w w1 (fb :: ob vs ++ ob vsb) := ht1.mono (fun k hk => .inl (by simp at hk; simp [hk]))
  have same1 : w1 = w1.setCell ⟨fb, 5, none⟩ (.int .i64 (F.waits : Int)) := by
    have hc : w1.cell? ⟨fb, 5, none⟩ = some (.int .i64 (F.waits : Int)) := hI1.box.cell 5
    obtain ⟨ty, hb⟩ := hI1.box
    rw [setCell_eq_setRow w1 fb 5 _ ty (0, 0) _ hb, set_same (by rfl)]
    exact (setRow_self _ _ _ _ _ hb).symm
  obtain ⟨r1, r2, r3⟩ := hV.seen_put (k := F.waits) (w1 := w1) (w' := w1) hI1 (fun k hk => .inl (ho1 ▸ hk)) (fun k hk => .inl (ho2 ▸ hk)) tt same1
  have H1 : Hid (FileV w1 base fb age vd1 vb1 vf vfb ⟨F.seen.cut n, F.safe, F.waits⟩ ∧ Touch w w1 (fb :: (ob vs ++ (ob vsb ++ (ob vf ++ ob vfb)))) ∧ (∀ k ∈ fb :: (ob vd1 ++ (ob vb1 ++ (ob vf ++ ob vfb))), k ∈ fb :: (ob vs ++ (ob vsb ++ (ob vf ++ ob vfb))) ∨ w.heap.size ≤ k)) := ⟨r1, r2, r3⟩
  clear hI1 ho1 ho2 ht1 hV hcut tt same1 r1 r2 r3
  go_wp2_with fail
  refine (K2.out _ _ _ _ H1.out.1).mono ?_
  rintro e w2 ⟨vd2, vb2, rfl, hI2, ho3, ho4, ht2⟩
  have c25 : w2.cell? ⟨fb, 5, none⟩ = some (.int .i64 (F.waits : Int)) := hI2.box.cell 5
  have f25 : w2.frozen? ⟨fb, 5, none⟩ = false := hI2.box.frozen 5
  have H2 : Hid (InBox w2 fb 3 (fcells age vd1 vb1 vd2 vb2 F.waits) base vd2 vb2 (F.safe.cut n) ∧ ob vd2 = ob vf ∧ ob vb2 = ob vfb ∧ Touch w1 w2 [fb]) := ⟨hI2, ho3, ho4, ht2⟩
  clear hI2 ho3 ho4 ht2
  go_wp2
  go_end0
  obtain ⟨hI2, ho3, ho4, ht2⟩ := H2.out
  obtain ⟨hV1, tt1, nn1⟩ := H1.out
  obtain ⟨s1, s2, s3⟩ := hV1.safe_put (k := M) hI2 (fun k hk => .inl (ho3 ▸ hk)) (fun k hk => .inl (ho4 ▸ hk)) (ht2.mono (fun k hk => .inl (by simp at hk; simp [hk]))) rfl
  refine ⟨_, rfl, ⟨_, _, _, _, by rw [HA.out.2]; exact s1, rfl⟩, fun k hk => ?_, tt1.trans s2 nn1⟩
  rcases s3 k hk with h | h
  · exact nn1 k h
  · exact .inr (Nat.le_trans tt1.size h)

end Go.Proofs.YtkfjkfpodkbkaaaGreatDoor

set_option linter.unusedVariables false
set_option linter.unusedSimpArgs false
namespace Go.Proofs.YtkfjkfpodkbkaaaGreatDoor
open Go Go.RowKit

theorem OwnB.up {w w' : World} {base : Nat} {v : Value} {bs : List UInt8} (h : OwnB w base v bs) (u : Up w w') : OwnB w' base v bs := Touch.row h (Touch.of_up u []) (fun _ _ => by simp)
theorem OwnN.up {w w' : World} {base : Nat} {v : Value} {zs : List Nat} (h : OwnN w base v zs) (u : Up w w') : OwnN w' base v zs := Touch.row h (Touch.of_up u []) (fun _ _ => by simp)
theorem OwnB.ge {w : World} {base : Nat} {v : Value} {bs : List UInt8} (h : OwnB w base v bs) : ∀ k ∈ ob v, base ≤ k ∧ k < w.heap.size := fun k hk => World.ownsRow.lt h k (mem_ob.1 hk)
theorem OwnN.ge {w : World} {base : Nat} {v : Value} {zs : List Nat} (h : OwnN w base v zs) : ∀ k ∈ ob v, base ≤ k ∧ k < w.heap.size := fun k hk => World.ownsRow.lt h k (mem_ob.1 hk)
theorem OwnB.rebase {w : World} {base base' : Nat} {v : Value} {bs : List UInt8} (h : OwnB w base v bs) (hb : base' ≤ base) : OwnB w base' v bs := ownsRow_base h (fun k hk => Nat.le_trans hb (World.ownsRow.lt h k hk).1)
theorem OwnN.rebase {w : World} {base base' : Nat} {v : Value} {zs : List Nat} (h : OwnN w base v zs) (hb : base' ≤ base) : OwnN w base' v zs := ownsRow_base h (fun k hk => Nat.le_trans hb (World.ownsRow.lt h k hk).1)

/-- A copy: two rows of new memory, apart. -/
structure Copied (w w' : World) (base : Nat) (vd vb : Value) (c : Con) : Prop where
  dat : OwnB w' base vd c.data
  bad : OwnN w' base vb c.bad
  nd : (ob vd ++ ob vb).Nodup
  up : Up w w'

theorem copied_dn {w0 w1 w2 : World} {vd vb : Value} {c : Con} {B : Nat} (hB : B ≤ w0.heap.size) (h1 : OwnB w1 w0.heap.size vd c.data) (u1 : Up w0 w1) (h2 : OwnN w2 w1.heap.size vb c.bad) (u2 : Up w1 w2) : OwnB w2 B vd c.data ∧ OwnN w2 B vb c.bad ∧ (ob vd ++ ob vb).Nodup := by
  refine ⟨(h1.up u2).rebase hB, h2.rebase (Nat.le_trans hB u1.size), List.nodup_append.2 ⟨ob_nodup _, ob_nodup _, fun x hx y hy e => ?_⟩⟩
  have a := h1.ge x hx
  have b := h2.ge y hy
  omega
theorem copied_nd {w0 w1 w2 : World} {vd vb : Value} {c : Con} {B : Nat} (hB : B ≤ w0.heap.size) (h1 : OwnN w1 w0.heap.size vb c.bad) (u1 : Up w0 w1) (h2 : OwnB w2 w1.heap.size vd c.data) (u2 : Up w1 w2) : OwnB w2 B vd c.data ∧ OwnN w2 B vb c.bad ∧ (ob vd ++ ob vb).Nodup := by
  refine ⟨h2.rebase (Nat.le_trans hB u1.size), (h1.up u2).rebase hB, List.nodup_append.2 ⟨ob_nodup _, ob_nodup _, fun x hx y hy e => ?_⟩⟩
  have a := h1.ge y hy
  have b := h2.ge x hx
  omega

theorem copied_fin {u : World} {B : Nat} {vd vb : Value} {c : Con} (x y : Value) (h : OwnB u (B + 2) vd c.data ∧ OwnN u (B + 2) vb c.bad ∧ (ob vd ++ ob vb).Nodup) :
    OwnB ((u.setCell ⟨B + 1, 0, none⟩ x).setCell ⟨B + 1, 1, none⟩ y) B vd c.data ∧ OwnN ((u.setCell ⟨B + 1, 0, none⟩ x).setCell ⟨B + 1, 1, none⟩ y) B vb c.bad ∧ (ob vd ++ ob vb).Nodup := by
  have t : Touch u ((u.setCell ⟨B + 1, 0, none⟩ x).setCell ⟨B + 1, 1, none⟩ y) [B + 1] := ((Touch.refl _ _).setCell (.inl (by simp)) _ _).setCell (.inl (by simp)) _ _
  exact ⟨OwnB.rebase (base := B + 2) (Touch.row h.1 t (fun k hk => by have := h.1.ge k (mem_ob.2 hk); simp; omega)) (by omega), OwnN.rebase (base := B + 2) (Touch.row h.2.1 t (fun k hk => by have := h.2.1.ge k (mem_ob.2 hk); simp; omega)) (by omega), h.2.2⟩

set_option maxHeartbeats 800000 in
theorem clone_any (vd vb : Value) (c : Con) (w : World) (hd : Sl 0 w vd c.data) (hb : SlN 0 w vb c.bad) (hl : c.data.length ≤ CB) (hl2 : c.bad.length ≤ 10000000000000) :
    Calls Tryz.prog 64 #[.agg #[vd, vb]] w fun e w' => ∃ vd' vb', e = .returned (.agg #[vd', vb']) ∧ Copied w w' w.heap.size vd' vb' c := by
  obtain ⟨pd, capd, rfl, hd2⟩ := hd
  obtain ⟨pb, capb, rfl, hb2⟩ := hb
  have HD : Hid (Sl 0 w (.slice pd c.data.length capd) c.data ∧ SlN 0 w (.slice pb c.bad.length capb) c.bad ∧ c.data.length ≤ CB ∧ c.bad.length ≤ 20000000000000) := ⟨⟨pd, capd, rfl, hd2⟩, ⟨pb, capb, rfl, hb2⟩, hl, by omega⟩
  clear hd2 hb2 hl hl2
  go_enter Tryz.func64, Tryz.ntmps64
  go_wp2
  obtain ⟨W, hW⟩ : ∃ W, (w.alloc (.cells #[.slice pd c.data.length capd, .slice pb c.bad.length capb] 98)).alloc (.cells #[.slice none 0 0, .slice none 0 0] 98) = W := ⟨_, rfl⟩
  have hs : Box W w.heap.size #[.slice pd c.data.length capd, .slice pb c.bad.length capb] ∧ Box W (w.heap.size + 1) #[.slice none 0 0, .slice none 0 0] ∧ Up w W := by
    rw [← hW]
    exact ⟨(Box.new w _ _).alloc _, Box.newAt (by simp), (Up.alloc _ _).trans (Up.alloc _ _)⟩
  rw [hW]
  clear hW
  have sof : ∀ {a b : World}, (Box a w.heap.size #[.slice pd c.data.length capd, .slice pb c.bad.length capb] ∧ Box a (w.heap.size + 1) #[.slice none 0 0, .slice none 0 0] ∧ Up w a) → Up a b → (Box b w.heap.size #[.slice pd c.data.length capd, .slice pb c.bad.length capb] ∧ Box b (w.heap.size + 1) #[.slice none 0 0, .slice none 0 0] ∧ Up w b) :=
    fun h u => ⟨h.1.up u, h.2.1.up u, h.2.2.trans u⟩
  replace hs := sof hs (Up.drew W)
  have c0 := hs.1.cell 0
  have c1 := hs.1.cell 1
  go_region_with (first
    | (go_at_call 110; refine (cloneB_any 0 _ c.data _ (HD.out.1.up hs.2.2) HD.out.2.2.1).mono ?_; rintro e w1 ⟨v1, rfl, o1, u1⟩; have hz1 := hs.2.1.lt; replace hs := sof hs u1; have c10 := hs.1.cell 0; have c11 := hs.1.cell 1; have r10 := hs.2.1.cell 0; have r11 := hs.2.1.cell 1; have r1f := hs.2.1.frozen 0; have r1g := hs.2.1.frozen 1; obtain ⟨p1, q1, rfl⟩ := o1.slice)
    | (go_at_call 111; refine (cloneN_any 0 _ c.bad _ (HD.out.2.1.up hs.2.2) HD.out.2.2.2).mono ?_; rintro e w2 ⟨v2, rfl, o2, u2⟩; have hz2 := hs.2.1.lt; replace hs := sof hs u2; have c20 := hs.1.cell 0; have c21 := hs.1.cell 1; have r20 := hs.2.1.cell 0; have r21 := hs.2.1.cell 1; have r2f := hs.2.1.frozen 0; have r2g := hs.2.1.frozen 1; obtain ⟨p2, q2, rfl⟩ := o2.slice))
  all_goals
    have b9 := (hs.2.1.set 0 (.slice p1 c.data.length q1)).set 1 (.slice p2 c.bad.length q2)
    have u9 := (hs.2.2.setCell (p := ⟨w.heap.size + 1, 0, none⟩) (by simp) (.slice p1 c.data.length q1)).setCell (p := ⟨w.heap.size + 1, 1, none⟩) (by simp) (.slice p2 c.bad.length q2)
    go_wp2
    have d0 := b9.cell 0
    have d1 := b9.cell 1
    refine bodyPost_ret (v := .agg #[.slice p1 c.data.length q1, .slice p2 c.bad.length q2]) (by simp [results, Tryz.results64, go_sem, d0, d1]) rfl ⟨_, _, rfl, ?_⟩
    first
    | (have q := copied_fin (.slice p1 c.data.length q1) (.slice p2 c.bad.length q2) (copied_dn (B := w.heap.size + 2) hz1 o1 u1 o2 u2); exact ⟨q.1, q.2.1, q.2.2, u9⟩)
    | (have q := copied_fin (.slice p1 c.data.length q1) (.slice p2 c.bad.length q2) (copied_nd (B := w.heap.size + 2) hz2 o2 u2 o1 u1); exact ⟨q.1, q.2.1, q.2.2, u9⟩)

/-- content.under: a file of an image. -/
theorem under_any (vd vb : Value) (nd nb : Nat) (name : List UInt8) (w : World) (hd : ∃ p c, vd = .slice p nd c) (hb : ∃ p c, vb = .slice p nb c) :
    Calls Tryz.prog 56 #[.agg #[vd, vb], .string ⟨name.toArray⟩] w fun e w' => e = .returned (.agg #[.string ⟨name.toArray⟩, vd, vb]) ∧ Up w w' := by
  obtain ⟨p1, c1, rfl⟩ := hd
  obtain ⟨p2, c2, rfl⟩ := hb
  go_enter Tryz.func56, Tryz.ntmps56
  go_wp2
  refine bodyPost_ret (v := .agg #[.string ⟨name.toArray⟩, .slice p1 nd c1, .slice p2 nb c2]) (by simp [results, Tryz.results56, go_sem]) rfl ⟨rfl, ?_⟩
  exact (Up.alloc _ _).trans (Up.alloc _ _)

end Go.Proofs.YtkfjkfpodkbkaaaGreatDoor

/- table: TableOrder's walk. Own work. -/
import Derived.Test.YtldmiieepikjnaaTbOrder
import Derived.Test.YtldmiieepikjnaaTbLess
import Derived.Deep.DeepCutAuto
set_option linter.unusedVariables false
set_option linter.unusedSimpArgs false
namespace Go.Proofs.Ytldmiieepikjnaa
open Go Go.RowKit

set_option maxRecDepth 20000 in
set_option maxHeartbeats 16000000 in
theorem TableOrder_any (sv : Value) (fr : ByteArray) (ks : List ByteArray) (w : World) (hs : StrT w sv ks) (hn : ks.length ≤ 4000000) (hk : ∀ k ∈ ks, KeyOk k) (hf : KeyOk fr) :
    Calls Try.prog 7 #[sv, .string fr] w fun e w' => e = .returned (.bool true) ∧ Up w w' := by
  have qa := awake_any w
  obtain ⟨ao, cap, rfl, hx⟩ := hs
  have HQ : Hid (∀ i (h : i < ks.length) {w' : World}, Up w w' → ∃ b o, ao = some ⟨b, o, none⟩ ∧ w'.cell? ⟨b, o + i, none⟩ = some (.string ks[i]) ∧ KeyOk ks[i]) := fun i h {w'} u => by
    obtain ⟨b, o, rfl, h1⟩ := hx (by rintro rfl; simp at h)
    exact ⟨b, o, rfl, (u.cell (World.block_lt_of_cell? w _ (h1 i h))).trans (h1 i h), hk _ (List.getElem_mem h)⟩
  obtain ⟨N, hN⟩ : ∃ N, ks.length = N := ⟨_, rfl⟩
  have HN : Hid (ks.length = N) := hN
  have HF : Hid (KeyOk fr) := hf
  rw [hN] at hn ⊢
  clear hx hk hf hN
  have hNb : (N : Int) ≤ 4000000 := by omega
  have hw1 : IntKind.i64.wrap ((N : Int) + 1) = (N : Int) + 1 := by rw [IntKind.wrap_i64]; omega
  have hnn1 : ¬ ((N : Int) + 1 ≤ 0) := by omega
  go_enter Try.func7, Try.ntmps7
  go_wp2_with fail
  refine qa.mono ?_
  clear qa
  rintro e w1 ⟨rfl, u1⟩
  go_wp2_with fail
  refine (NewI_any ((N : Int) + 1) w1).mono ?_
  rintro e w2 ⟨rfl, t1, u2⟩
  go_wp2_with fail
  refine (NewI_any ((N : Int) + 1) w2).mono ?_
  rintro e w3 ⟨rfl, t2, u3⟩
  have E0 : Hid (Two w w1.heap.size w2.heap.size ((N : Int) + 1) [] [] w3) := ⟨t1.up u3, t2, by have := t1.lt; omega, u1.size, by have := u1.size; have := u2.size; omega, (u1.trans u2).trans u3⟩
  clear t1 t2 u1 u2 u3
  generalize w1.heap.size = a at E0 ⊢
  generalize w2.heap.size = b at E0 ⊢
  go_wp2_with fail
  clear hw1 hnn1
  go_loopg [8] N (fun g s wr => ∃ i : Nat, s = .int .i64 (i : Int) ∧ g + i = N ∧ Hid (∃ X Y, Two w a b ((N : Int) + 1) X Y wr ∧ OrdX ks i X ∧ OrdY ks fr i Y))
  case atStart => exact ⟨0, rfl, rfl, [], [], E0.out, ⟨List.Pairwise.nil, Nat.le_refl _, fun k => ⟨fun h => by simp at h, fun _ => rfl⟩⟩, ⟨List.Pairwise.nil, by simp [cntF], fun k _ => ⟨fun h => by simp at h, fun _ => rfl⟩⟩⟩
  case round =>
    obtain ⟨i, rfl, hgi, hE⟩ := hrel
    clear E0
    by_cases hlt : i < N
    · obtain ⟨X, Y, hT, hX, hY⟩ := hE.out
      obtain ⟨gb, o, rfl, c1, hkey⟩ := HQ.out i (by rw [HN.out]; exact hlt) hT.2.2.2.2.2
      obtain ⟨gb2, o2, he2, c2, hkey2⟩ := HQ.out (N - 1 - i) (by rw [HN.out]; omega) hT.2.2.2.2.2
      simp only [Option.some.injEq, Addr.mk.injEq, and_true] at he2
      obtain ⟨rfl, rfl⟩ := he2
      have hX' := hX.step (by rw [HN.out]; exact hlt)
      have hXn := hX.2.1
      obtain ⟨kx, hkx⟩ : ∃ kx, (ks[i]'(by rw [HN.out]; exact hlt)) = kx := ⟨_, rfl⟩
      obtain ⟨ky, hky⟩ : ∃ ky, (ks[N - 1 - i]'(by rw [HN.out]; omega)) = ky := ⟨_, rfl⟩
      rw [hkx] at c1 hkey hX'
      rw [HN.out] at hX'
      rw [hky] at c2 hkey2
      have hiN : (i : Int) < (N : Int) := by omega
      have hw : IntKind.i64.wrap ((i : Int) + 1) = ((i + 1 : Nat) : Int) := by rw [IntKind.wrap_i64]; omega
      have hw2 : IntKind.i64.wrap ((N : Int) - 1) = ((N - 1 : Nat) : Int) := by rw [IntKind.wrap_i64]; omega
      have hw3 : IntKind.i64.wrap (((N - 1 : Nat) : Int) - (i : Int)) = ((N - 1 - i : Nat) : Int) := by rw [IntKind.wrap_i64]; omega
      have hmN : ((N - 1 - i : Nat) : Int) < (N : Int) := by omega
      have HB : Hid (gk + i = N ∧ i < N) := ⟨hgi, hlt⟩
      have HS : Hid (∀ {Z}, OrdY ks fr i Z → OrdY ks fr (i + 1) (putT ((N : Int) + 1) ky (ln ky) Z) ∧ Z.length ≤ i + 1) := fun {Z} h => by
        have h2 := h.step (by rw [HN.out]; exact hlt)
        have e : ∀ (h' : ks.length - 1 - i < ks.length), ks[ks.length - 1 - i]'h' = ky := fun h' => by subst hky; congr 1; rw [HN.out]
        rw [e, HN.out] at h2
        exact ⟨h2, h.2.1.le⟩
      have HP : Hid (OrdY ks fr i (putT ((N : Int) + 1) fr (-1) Y) ∧ OrdY ks fr i (delT fr (putT ((N : Int) + 1) fr (-1) Y)) ∧ Y.length ≤ i + 1) := by
        have h2 := (hY.put (by rw [HN.out]; omega) (-1)).1
        rw [HN.out] at h2
        exact ⟨h2, h2.del.1, hY.2.1.le⟩
      have kA := fun {w' : World} (u : Up wr w') => PutA (hT.up u) kx (ln kx) hkey (by omega)
      have hup : ∀ {w' : World}, Up wr w' → w'.cell? ⟨gb, o + i, none⟩ = some (.string kx) := fun u => (u.cell (World.block_lt_of_cell? wr _ c1)).trans c1
      have hub : ∀ {w' : World}, Up w w' → ∀ i (h : i < ks.length), w'.cell? ⟨gb, o + i, none⟩ = some (.string ks[i]) := fun {w'} u i h => by
        obtain ⟨b', o', he, hc, _⟩ := HQ.out i h u
        simp only [Option.some.injEq, Addr.mk.injEq, and_true] at he
        obtain ⟨rfl, rfl⟩ := he
        exact hc
      have HC1 : Hid (∀ {w' : World}, Up w w' → w'.cell? ⟨gb, o + i, none⟩ = some (.string kx)) := fun u => by subst hkx; exact hub u i (by rw [HN.out]; exact hlt)
      have HC2 : Hid (∀ {w' : World}, Up w w' → w'.cell? ⟨gb, o + (N - 1 - i), none⟩ = some (.string ky)) := fun u => by subst hky; exact hub u (N - 1 - i) (by rw [HN.out]; omega)
      generalize putT ((N : Int) + 1) kx (ln kx) X = X1 at kA hX'
      generalize took ((N : Int) + 1) kx X = tk at kA
      have HX : Hid (OrdX ks (i + 1) X1) := hX'
      clear hX hX' hXn hY hT hE hkx hky hub c2 hlt hgi hn
      go_wp2_with fail
      have hs := hup (Up.drew wr)
      go_region_held3 (fun w' => w'.cell? ⟨gb, o + i, none⟩ = some (.string kx)) (exact hs)
        (first
        | (go_at_call 12; refine (kA (Up.drew wr)).mono ?_; clear kA hs; rintro e wa ⟨rfl, ha⟩; have hs : wa.cell? ⟨gb, o + i, none⟩ = some (.string kx) := HC1.out ha.2.2.2.2.2))
      clear hs
      go_wp2_with fail
      refine (PutB ha fr (-1) HF.out (by have := HP.out.2.2; have := HB.out; omega)).mono ?_
      rintro e wb ⟨rfl, hb⟩
      have HY := HP
      generalize putT ((N : Int) + 1) fr (-1) Y = Y1 at hb HY
      clear ha HP
      go_wp2_with fail
      · have hYl : Y1.length ≤ 4000000000000 := by have := HY.out.1.2.1.le; have := HB.out; omega
        refine (DelB hb fr hYl).mono ?_
        rintro e wc ⟨rfl, hc⟩
        have HZ : Hid (OrdY ks fr i (delT fr Y1)) := HY.out.2.1
        clear hb HY hYl
        generalize delT fr Y1 = Z at hc HZ
        go_wp2_with fail
        have c3 := HC2.out (hc.2.2.2.2.2.trans (Up.drew wc))
        have hs := c3
        have hll : Z.length ≤ 4000000000000 := by have := (HS.out HZ.out).2; have := HB.out; omega
        have kB := fun {w' : World} (u : Up wc w') => PutB (hc.up u) ky (ln ky) hkey2 hll
        have FIN : Hid (∀ {w' : World}, Two w a b ((N : Int) + 1) X1 (putT ((N : Int) + 1) ky (ln ky) Z) w' → ∃ X Y, Two w a b ((N : Int) + 1) X Y w' ∧ OrdX ks (i + 1) X ∧ OrdY ks fr (i + 1) Y) := fun h => ⟨_, _, h, HX.out, (HS.out HZ.out).1⟩
        generalize putT ((N : Int) + 1) ky (ln ky) Z = Z1 at kB FIN
        generalize took ((N : Int) + 1) ky Z = tk2 at kB
        clear hc c3 hll
        go_region_held3 (fun w' => w'.cell? ⟨gb, o + (N - 1 - i), none⟩ = some (.string ky)) (exact hs)
          (first
          | (go_at_call 12; refine (kB (Up.drew wc)).mono ?_; clear kB hs; rintro e wd ⟨rfl, hd⟩; have hs : wd.cell? ⟨gb, o + (N - 1 - i), none⟩ = some (.string ky) := HC2.out hd.2.2.2.2.2))
        clear hs
        go_wp2_with fail
        go_roundg (N - (i + 1))
        case measure => have := HB.out; omega
        case rel => exact ⟨i + 1, by simp, by have := HB.out; omega, FIN.out hd⟩
      · have HZ : Hid (OrdY ks fr i Y1) := HY.out.1
        have hc := hb
        clear hb HY
        obtain ⟨Z, hZ⟩ : ∃ Z, Z = Y1 := ⟨_, rfl⟩
        subst hZ
        obtain ⟨wc, hwc⟩ : ∃ wc, wc = wb := ⟨_, rfl⟩
        subst hwc
        have c3 := HC2.out (hc.2.2.2.2.2.trans (Up.drew wc))
        have hs := c3
        have hll : Z.length ≤ 4000000000000 := by have := (HS.out HZ.out).2; have := HB.out; omega
        have kB := fun {w' : World} (u : Up wc w') => PutB (hc.up u) ky (ln ky) hkey2 hll
        have FIN : Hid (∀ {w' : World}, Two w a b ((N : Int) + 1) X1 (putT ((N : Int) + 1) ky (ln ky) Z) w' → ∃ X Y, Two w a b ((N : Int) + 1) X Y w' ∧ OrdX ks (i + 1) X ∧ OrdY ks fr (i + 1) Y) := fun h => ⟨_, _, h, HX.out, (HS.out HZ.out).1⟩
        generalize putT ((N : Int) + 1) ky (ln ky) Z = Z1 at kB FIN
        generalize took ((N : Int) + 1) ky Z = tk2 at kB
        clear hc c3 hll
        go_region_held3 (fun w' => w'.cell? ⟨gb, o + (N - 1 - i), none⟩ = some (.string ky)) (exact hs)
          (first
          | (go_at_call 12; refine (kB (Up.drew wc)).mono ?_; clear kB hs; rintro e wd ⟨rfl, hd⟩; have hs : wd.cell? ⟨gb, o + (N - 1 - i), none⟩ = some (.string ky) := HC2.out hd.2.2.2.2.2))
        clear hs
        go_wp2_with fail
        go_roundg (N - (i + 1))
        case measure => have := HB.out; omega
        case rel => exact ⟨i + 1, by simp, by have := HB.out; omega, FIN.out hd⟩
    · obtain rfl : i = N := by omega
      have hiN : ¬ ((i : Int) < (i : Int)) := by omega
      obtain ⟨X, Y, hT, hX, hY⟩ := hE.out
      have hX2 : OrdX ks ks.length X := by rw [HN.out]; exact hX
      have hY2 : OrdY ks fr ks.length Y := by rw [HN.out]; exact hY
      have hend := ord_end hX2 hY2
      rw [HN.out] at hend
      have HX : Hid (OrdX ks ks.length X) := hX2
      have HKO : Hid (∀ j (h : j < X.length), KeyOk X[j].1) := fun j h => by
        have h1 := hX2.2.2 X[j].1
        rw [List.take_length] at h1
        by_cases hm : X[j].1 ∈ ks
        · obtain ⟨m, hm1, hm2⟩ := List.getElem_of_mem hm
          rw [← hm2]
          obtain ⟨_, _, _, _, hko⟩ := HQ.out m hm1 (hT.2.2.2.2.2)
          exact hko
        · have := getL_none (h1.2 hm) X[j] (List.getElem_mem h)
          rw [kl_irr] at this
          rcases this with h | h <;> cases h
      have hXl : X.length ≤ 4000000000000 := by have := hX.2.1; omega
      have HXl : Hid (X.length ≤ 4000001) := by have := hX.2.1; show _ ≤ _; omega
      have hYl : Y.length ≤ 4000000000000 := by have := hY.2.1.le; omega
      clear hE hX hX2 hY hY2 HN HQ hn hgi hlt
      go_wp2_with fail
      refine (GetA hT fr).mono ?_
      rintro e wa ⟨rfl, hwa⟩
      obtain rfl : wr = wa := hwa.symm
      by_cases hh : (getL fr X).isSome = true
      · rw [hh]
        have e1 := hend.2 hh
        generalize (getL fr X).getD 0 = gg
        clear hend
        go_wp2_with fail
        refine (PutB hT fr (ln fr) HF.out hYl).mono ?_
        rintro e wc ⟨rfl, hc⟩
        rw [e1] at hc
        clear hT hYl e1
        clear hh
        obtain ⟨hA, hB, _, _, _, hU⟩ := hc
        go_wp2_with fail
        refine (yields_any (some ⟨a, 0, none⟩) true ⟨#[]⟩ (-1) X wc (.inr ⟨a, _, rfl, hA⟩) hXl).mono ?_
        rintro e wd ⟨v, rfl, hv, _, ud⟩
        replace hv : SlIt wd v X := by simpa [cut] using hv
        obtain ⟨vo, vc, rfl⟩ := hv.slice
        have hTB : TabP wd (some ⟨b, 0, none⟩) X := .inr ⟨b, _, rfl, hB.up ud⟩
        go_wp2_with fail
        refine (told_any (some ⟨b, 0, none⟩) true ⟨#[]⟩ (-1) X _ wd hTB hXl (by simpa using hv)).mono ?_
        rintro e we ⟨rfl, ue⟩
        go_wp2_with fail
        have hv2 := hv.up ue
        have HA2 : Hid (∀ {w' : World}, Up we w' → TabP w' (some ⟨a, 0, none⟩) X ∧ Up w w') := fun u => ⟨.inr ⟨a, _, rfl, ((hA.up ud).up ue).up u⟩, ((hU.trans ud).trans ue).trans u⟩
        obtain ⟨sa, sc, hsl, hsd⟩ := sl_drop (pl fr X) (pl_le fr X) hv2
        rw [drop_pl HX.out.1] at hsd
        have HSD : Hid (SlIt we (.slice sa (X.length - pl fr X) sc) (fromL fr X)) := hsd
        have HV : Hid (∀ j (h : j < X.length) {w' : World}, Up we w' → ∃ g o, vo = some ⟨g, o, none⟩ ∧ w'.cell? ⟨g, o + j * 2, none⟩ = some (.string X[j].1)) := fun j h {w'} u => by
          obtain ⟨_, _, he, _, hx⟩ := hv2
          simp only [Value.slice.injEq, true_and] at he
          obtain ⟨rfl, rfl⟩ := he
          obtain ⟨g, o, rfl, h1⟩ := hx (by rintro rfl; simp at h)
          exact ⟨g, o, rfl, (u.cell (World.block_lt_of_cell? we _ (h1 j h).1)).trans (h1 j h).1⟩
        have HPL : Hid (∀ j (h : j < X.length), kl X[j].1 fr = decide (j < pl fr X)) := fun j h => at_pl HX.out.1 fr j h
        have hPM := pl_le fr X
        obtain ⟨M, hM⟩ : ∃ M, X.length = M := ⟨_, rfl⟩
        have HM : Hid (X.length = M) := hM
        have hMb : (M : Int) ≤ 4000001 := by have := HXl.out; omega
        obtain ⟨pp, hpp⟩ : ∃ pp, pl fr X = pp := ⟨_, rfl⟩
        rw [hM] at hsl hPM HSD ⊢
        rw [hpp] at hsl hPM HSD HPL
        clear hv hv2 hsd hTB hA hB hU ud ue hM hpp
        go_loopg [13] pp (fun g s wr => Up we wr ∧ ∃ j : Nat, s = .int .i64 (j : Int) ∧ Hid (g + j = pp))
        case atStart => exact ⟨Up.refl _, 0, rfl, rfl⟩
        case round =>
          obtain ⟨hu, j, rfl, hH⟩ := hrel
          have hw : IntKind.i64.wrap ((j : Int) + 1) = ((j + 1 : Nat) : Int) := by rw [IntKind.wrap_i64]; have := hH.out; omega
          by_cases hlt : j < M
          · obtain ⟨g, o, rfl, c1⟩ := HV.out j (by rw [HM.out]; exact hlt) hu
            have hkk := HPL.out j (by rw [HM.out]; exact hlt)
            have hko := HKO.out j (by rw [HM.out]; exact hlt)
            obtain ⟨kk, hkk2⟩ : ∃ kk, (X[j]'(by rw [HM.out]; exact hlt)).1 = kk := ⟨_, rfl⟩
            rw [hkk2] at c1 hkk hko
            have hjM : (j : Int) < (M : Int) := by omega
            have kB := fun {w' : World} => behind_any kk fr w' hko HF.out
            clear hkk2 hko
            have HB : Hid (gk + j = pp ∧ pp ≤ M) := ⟨hH.out, hPM⟩
            clear hH
            by_cases hjp : j < pp
            · rw [hkk, decide_eq_true hjp] at kB
              go_wp2_with (first
                | (go_at_call 43; refine kB.mono ?_; rintro e wx ⟨rfl, ux⟩))
              have u2 := hu.trans ux
              go_roundg (gk - 1)
              case measure => have := HB.out; omega
              case rel => exact ⟨u2, j + 1, by simp, by have := HB.out; show _ = _; omega⟩
            · rw [hkk, decide_eq_false hjp] at kB
              obtain rfl : j = pp := by have := HB.out; omega
              go_wp2_with (first
                | (go_at_call 43; refine kB.mono ?_; rintro e wx ⟨rfl, ux⟩))
              refine (told_any (some ⟨a, 0, none⟩) false fr (-1) X _ wx (HA2.out (hu.trans ux)).1 hXl (by simpa using (HSD.out.up hu).up ux)).mono ?_
              rintro e wy ⟨rfl, uy⟩
              go_wp2
              go_ret
              exact ⟨rfl, (HA2.out ((hu.trans ux).trans uy)).2⟩
          · obtain rfl : j = M := by have := hH.out; omega
            obtain rfl : j = pp := by have := hH.out; omega
            have hjM : ¬ ((j : Int) < (j : Int)) := by omega
            clear hlt hH
            go_wp2_with fail
            refine (told_any (some ⟨a, 0, none⟩) false fr (-1) X _ wr (HA2.out hu).1 hXl (by simpa using HSD.out.up hu)).mono ?_
            rintro e wy ⟨rfl, uy⟩
            go_wp2
            go_ret
            exact ⟨rfl, (HA2.out (hu.trans uy)).2⟩
      · have e1 := hend.1 (by simpa using hh)
        have hh : (getL fr X).isSome = false := by simpa using hh
        rw [hh]
        generalize (getL fr X).getD 0 = gg
        clear hend
        go_wp2_with fail
        refine (DelB hT fr hYl).mono ?_
        rintro e wc ⟨rfl, hc⟩
        rw [e1] at hc
        clear hT hYl e1
        clear hh
        obtain ⟨hA, hB, _, _, _, hU⟩ := hc
        go_wp2_with fail
        refine (yields_any (some ⟨a, 0, none⟩) true ⟨#[]⟩ (-1) X wc (.inr ⟨a, _, rfl, hA⟩) hXl).mono ?_
        rintro e wd ⟨v, rfl, hv, _, ud⟩
        replace hv : SlIt wd v X := by simpa [cut] using hv
        obtain ⟨vo, vc, rfl⟩ := hv.slice
        have hTB : TabP wd (some ⟨b, 0, none⟩) X := .inr ⟨b, _, rfl, hB.up ud⟩
        go_wp2_with fail
        refine (told_any (some ⟨b, 0, none⟩) true ⟨#[]⟩ (-1) X _ wd hTB hXl (by simpa using hv)).mono ?_
        rintro e we ⟨rfl, ue⟩
        go_wp2_with fail
        have hv2 := hv.up ue
        have HA2 : Hid (∀ {w' : World}, Up we w' → TabP w' (some ⟨a, 0, none⟩) X ∧ Up w w') := fun u => ⟨.inr ⟨a, _, rfl, ((hA.up ud).up ue).up u⟩, ((hU.trans ud).trans ue).trans u⟩
        obtain ⟨sa, sc, hsl, hsd⟩ := sl_drop (pl fr X) (pl_le fr X) hv2
        rw [drop_pl HX.out.1] at hsd
        have HSD : Hid (SlIt we (.slice sa (X.length - pl fr X) sc) (fromL fr X)) := hsd
        have HV : Hid (∀ j (h : j < X.length) {w' : World}, Up we w' → ∃ g o, vo = some ⟨g, o, none⟩ ∧ w'.cell? ⟨g, o + j * 2, none⟩ = some (.string X[j].1)) := fun j h {w'} u => by
          obtain ⟨_, _, he, _, hx⟩ := hv2
          simp only [Value.slice.injEq, true_and] at he
          obtain ⟨rfl, rfl⟩ := he
          obtain ⟨g, o, rfl, h1⟩ := hx (by rintro rfl; simp at h)
          exact ⟨g, o, rfl, (u.cell (World.block_lt_of_cell? we _ (h1 j h).1)).trans (h1 j h).1⟩
        have HPL : Hid (∀ j (h : j < X.length), kl X[j].1 fr = decide (j < pl fr X)) := fun j h => at_pl HX.out.1 fr j h
        have hPM := pl_le fr X
        obtain ⟨M, hM⟩ : ∃ M, X.length = M := ⟨_, rfl⟩
        have HM : Hid (X.length = M) := hM
        have hMb : (M : Int) ≤ 4000001 := by have := HXl.out; omega
        obtain ⟨pp, hpp⟩ : ∃ pp, pl fr X = pp := ⟨_, rfl⟩
        rw [hM] at hsl hPM HSD ⊢
        rw [hpp] at hsl hPM HSD HPL
        clear hv hv2 hsd hTB hA hB hU ud ue hM hpp
        go_loopg [13] pp (fun g s wr => Up we wr ∧ ∃ j : Nat, s = .int .i64 (j : Int) ∧ Hid (g + j = pp))
        case atStart => exact ⟨Up.refl _, 0, rfl, rfl⟩
        case round =>
          obtain ⟨hu, j, rfl, hH⟩ := hrel
          have hw : IntKind.i64.wrap ((j : Int) + 1) = ((j + 1 : Nat) : Int) := by rw [IntKind.wrap_i64]; have := hH.out; omega
          by_cases hlt : j < M
          · obtain ⟨g, o, rfl, c1⟩ := HV.out j (by rw [HM.out]; exact hlt) hu
            have hkk := HPL.out j (by rw [HM.out]; exact hlt)
            have hko := HKO.out j (by rw [HM.out]; exact hlt)
            obtain ⟨kk, hkk2⟩ : ∃ kk, (X[j]'(by rw [HM.out]; exact hlt)).1 = kk := ⟨_, rfl⟩
            rw [hkk2] at c1 hkk hko
            have hjM : (j : Int) < (M : Int) := by omega
            have kB := fun {w' : World} => behind_any kk fr w' hko HF.out
            clear hkk2 hko
            have HB : Hid (gk + j = pp ∧ pp ≤ M) := ⟨hH.out, hPM⟩
            clear hH
            by_cases hjp : j < pp
            · rw [hkk, decide_eq_true hjp] at kB
              go_wp2_with (first
                | (go_at_call 43; refine kB.mono ?_; rintro e wx ⟨rfl, ux⟩))
              have u2 := hu.trans ux
              go_roundg (gk - 1)
              case measure => have := HB.out; omega
              case rel => exact ⟨u2, j + 1, by simp, by have := HB.out; show _ = _; omega⟩
            · rw [hkk, decide_eq_false hjp] at kB
              obtain rfl : j = pp := by have := HB.out; omega
              go_wp2_with (first
                | (go_at_call 43; refine kB.mono ?_; rintro e wx ⟨rfl, ux⟩))
              refine (told_any (some ⟨a, 0, none⟩) false fr (-1) X _ wx (HA2.out (hu.trans ux)).1 hXl (by simpa using (HSD.out.up hu).up ux)).mono ?_
              rintro e wy ⟨rfl, uy⟩
              go_wp2
              go_ret
              exact ⟨rfl, (HA2.out ((hu.trans ux).trans uy)).2⟩
          · obtain rfl : j = M := by have := hH.out; omega
            obtain rfl : j = pp := by have := hH.out; omega
            have hjM : ¬ ((j : Int) < (j : Int)) := by omega
            clear hlt hH
            go_wp2_with fail
            refine (told_any (some ⟨a, 0, none⟩) false fr (-1) X _ wr (HA2.out hu).1 hXl (by simpa using HSD.out.up hu)).mono ?_
            rintro e wy ⟨rfl, uy⟩
            go_wp2
            go_ret
            exact ⟨rfl, (HA2.out (hu.trans uy)).2⟩
end Go.Proofs.Ytldmiieepikjnaa

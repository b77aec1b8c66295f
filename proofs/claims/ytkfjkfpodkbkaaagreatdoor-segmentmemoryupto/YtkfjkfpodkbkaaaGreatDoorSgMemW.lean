/- segment: SegmentMemory: the walk. (Laid by genMem.py.) -/
import Derived.Test.YtkfjkfpodkbkaaaGreatDoorSgMem1
import Derived.Test.YtkfjkfpodkbkaaaGreatDoorSgBack
import Derived.Deep.QuietTactic
set_option linter.unusedVariables false
set_option linter.unusedSimpArgs false
namespace Go.Proofs.YtkfjkfpodkbkaaaGreatDoor
open Go Go.RowKit

theorem make_cap (n : Nat) (hn : n ≤ 140737488355328) (u : World) : (Instr.makeSlice 60 (.int .i64 0) (.int .i64 (n : Int))).run Tryz.prog u =
    .ok (.slice (some ⟨u.heap.size, 0, none⟩) 0 n) (u.alloc (.cells (madeCells #[.int .u8 0] n) 5)) := by
  obtain ⟨i0, hi, hz0, hz1, hz2⟩ := info_parts Tryz.infoU8
  have h := run_make (P := Tryz.prog) u 60 5 i0 (.int .u8 0) Tryz.underlying60 hi hz0 .i64 .i64 0 (n : Int) (by omega) (by omega) (by rw [hz2]; omega) (by omega)
  simpa [hz1, Value.cells] using h
theorem own_cap (n : Nat) (hn : n ≤ 140737488355327) (w : World) : Own (w.alloc (.cells (madeCells #[.int .u8 0] n) 5)) 5 w.heap.size (.slice (some ⟨w.heap.size, 0, none⟩) 0 n) [] :=
  ⟨by simp, .inr ⟨w.heap.size, n, _, rfl, Nat.le_refl _, heap_alloc_new _ _, Nat.zero_le _, by unfold maxLen; omega, by simp [size_madeCells], by simp⟩⟩

theorem wrap_u8 (i : Nat) : IntKind.u8.wrap (i : Int) = ((UInt8.ofNat i).toNat : Int) := by
  rw [UInt8.toNat_ofNat']
  simp [IntKind.wrap, IntKind.bits, IntKind.signed]

set_option maxRecDepth 20000 in
set_option maxHeartbeats 12800000 in
theorem SegmentMemory_any (x : Nat) (v : Value) (Rs : List Rec) (w : World) (ad : Nat → Addr) (hk : Ks w ad) (hx : x < 18446744073709551616) (hv : Rw w v Rs) (hl : Rs.length ≤ 140737488355328) (hsz : ∀ r ∈ Rs, r.length ≤ 140737488355328) :
    Calls Tryz.prog 7 #[.int .u64 (x : Int), v] w fun e w' => e = .returned (.bool true) ∧ Up w w' := by
  have haw := sawake_any w ad hk
  have HV : Hid (Ks w ad ∧ Rw w v Rs ∧ Rs.length ≤ 140737488355328 ∧ (∀ r ∈ Rs, r.length ≤ 140737488355328) ∧ x < 18446744073709551616) := ⟨hk, hv, hl, hsz, hx⟩
  obtain ⟨ao, cap, rfl, -⟩ := hv
  obtain ⟨N, hN⟩ : ∃ N, Rs.length = N := ⟨_, rfl⟩
  have hN0 : (0 : Int) ≤ (N : Int) := by omega
  have hNl : (N : Int) ≤ 140737488355328 := by omega
  have HN : Hid (Rs.length = N) := hN
  rw [hN] at HV ⊢
  clear hk hx hl hsz hN
  go_enter Tryz.func7, Tryz.ntmps7
  go_wp2_with fail
  refine haw.mono ?_
  rintro e w0 ⟨rfl, u0⟩
  clear haw
  go_wp2_with fail
  obtain ⟨w1, hw1⟩ : ∃ w1, w0.alloc (.cells #[.slice ao N cap, .bool false] 48) = w1 := ⟨_, rfl⟩
  have u1 : Up w w1 := u0.trans (by rw [← hw1]; exact Up.alloc _ _)
  have hn1 := heap_alloc_new w0 (.cells #[.slice ao N cap, .bool false] 48)
  rw [hw1] at hn1
  have hg1 : Grw w1 (.slice (some ⟨w0.heap.size, 0, none⟩) 1 1) [(Rs, false)] := by
    refine ⟨_, _, rfl, Nat.le_refl _, fun _ => ⟨_, _, rfl, fun i hi => ?_⟩⟩
    match i, hi with
    | 0, _ => exact ⟨⟨_, by rw [cell_of_row _ _ _ _ _ _ hn1]; rfl, HV.out.2.1.up u1⟩, by rw [cell_of_row _ _ _ _ _ _ hn1]; rfl⟩
  have hhv := heavy2_any (.slice (some ⟨w0.heap.size, 0, none⟩) 1 1) [(Rs, false)] w1 hg1 (by simp) (by
    intro g hg
    simp at hg
    subst hg
    exact ⟨by rw [HN.out]; exact HV.out.2.2.1, HV.out.2.2.2.1⟩)
  rw [hw1]
  clear hw1 hn1 hg1 u0
  refine hhv.mono ?_
  rintro e w2 ⟨⟨r, rfl, hr⟩, hw2⟩
  obtain rfl : w1 = w2 := hw2.symm
  clear hhv
  cases r with
  | true =>
    go_wp2
    go_ret
    exact ⟨rfl, u1⟩
  | false =>
    have HF : Hid (wtR Rs + 1 ≤ 4194304) := by show wtR Rs + 1 ≤ 4194304; have h := hr rfl; simp [wtG] at h; omega
    clear hr
    by_cases hx1 : x < 1
    · have g2 : decide ((x : Int) < 1) = true := by simp; omega
      clear hx1
      go_wp2
      go_ret
      exact ⟨rfl, u1⟩
    · by_cases hx2 : 2305843009213693952 < x
      · have e1 : decide ((x : Int) < 1) = false := by simp; omega
        have e2 : decide ((2305843009213693952 : Int) < (x : Int)) = true := by simp; omega
        clear hx2 hx1
        go_wp2
        go_ret
        exact ⟨rfl, u1⟩
      · have HX : Hid (1 ≤ x ∧ x ≤ 2305843009213693952) := ⟨by omega, by omega⟩
        have e2 : decide ((2305843009213693952 : Int) < (x : Int)) = false := by simp; omega
        have e3 : decide ((x : Int) < 1) = false := by simp; omega
        have hnew := New_any w1
        clear hx2 hx1
        go_wp2_with fail
        refine hnew.mono ?_
        rintro e w3 ⟨db, L3, rfl, d3, u3⟩
        clear hnew
        have HK : Hid (Ks w1 ad ∧ Up w w1) := ⟨HV.out.1.up u1, u1⟩
        have hcr := SegCreate_new w1 db L3 x w3 ad HK.out.1 u3 d3 HX.out.1 (by have := HX.out.2; omega)
        clear d3 u3 u1 e2 e3
        go_wp2_with fail
        refine hcr.mono ?_
        rintro e w4 ⟨sb, L4, rfl, b4, d4, n4, g4, u4⟩
        clear hcr
        have H4 : Hid (SgAt w1 w4 db sb (nameB x) x 0 true false (sgD (nameB x) (Fil.made ⟨[], []⟩) 2 0 (fun _ => none) 0 3) L4) := ⟨b4, d4, n4, g4, u4⟩
        clear b4 d4 n4 g4 u4
        have HR : Hid (∀ r ∈ Rs, r.length ≤ 4194304) := fun r hr => by have := (wtR_le Rs).2 r hr; have := HF.out; omega
        have HN8 : Hid (8 * N ≤ 4194304) := by have := (wtR_le Rs).1; have := HF.out; have := HN.out; show _ ≤ _; omega
        go_wp2_with fail
        go_loopg [9, 8] N (fun g p q2 wr => ∃ (i : Nat) (vg : Value), g = N - i ∧ p = .int .i64 (i : Int) ∧ vg = q2 ∧ Hid (i ≤ N ∧ Up w4 wr ∧ ∃ fs, GivR wr w4.heap.size vg (Rs.take i) 0 fs))
        case atStart => exact ⟨0, _, rfl, rfl, rfl, Nat.zero_le _, Up.refl _, [], GivR.nil _ _⟩
        case round =>
          obtain ⟨i, vg, rfl, rfl, rfl, HI⟩ := hrel
          by_cases hi : i < N
          · have hi1 : (i : Int) < (N : Int) := by omega
            have hi0 : (0 : Int) ≤ (i : Int) := by omega
            obtain ⟨fs, hG⟩ := HI.out.2.2
            have HG : Hid (i < N ∧ GivR wr w4.heap.size vg (Rs.take i) 0 fs ∧ Up w4 wr) := ⟨hi, hG, HI.out.2.1⟩
            have hi2 : i < Rs.length := by have := HN.out; omega
            have UW : Up w wr := HK.out.2.trans (H4.out.up.trans HI.out.2.1)
            have HRW : Rw w (.slice ao Rs.length cap) Rs := by have h := HV.out.2.1; rw [HN.out]; exact h
            obtain ⟨b, o, cap', vi, e, hat⟩ := HRW.at i hi2
            obtain ⟨rfl, rfl⟩ : ao = some ⟨b, o, none⟩ ∧ cap = cap' := by simp only [Value.slice.injEq] at e; exact ⟨e.1, e.2.2⟩
            obtain ⟨r, hr⟩ : ∃ r, Rs[i]'hi2 = r := ⟨_, rfl⟩
            have htk := List.take_succ_eq_append_getElem hi2
            rw [hr] at hat htk
            have HT : Hid (Rs.take (i + 1) = Rs.take i ++ [r] ∧ r.length ≤ 4194304) := ⟨htk, by rw [← hr]; exact HR.out _ (List.getElem_mem hi2)⟩
            have HAT : Hid (∀ u, Up w u → u.cell? ⟨b, o + i, none⟩ = some vi ∧ Sl 0 u vi r) := hat
            obtain ⟨ai, ci, rfl⟩ := (hat wr UW).2.slice
            obtain ⟨R, hRl⟩ : ∃ R, r.length = R := ⟨_, rfl⟩
            obtain ⟨R9, hR9⟩ : ∃ R9, R + 9 = R9 := ⟨_, rfl⟩
            have HRL : Hid (r.length = R ∧ R + 9 = R9 ∧ R ≤ 4194304) := ⟨hRl, hR9, by rw [← hRl]; exact HT.out.2⟩
            rw [hRl] at HAT
            have k0 := (HAT.out wr UW).1
            have r0 : (0 : Int) ≤ (R : Int) := by omega
            have r1 : (R : Int) ≤ 4194304 := by have := HRL.out.2.2; omega
            have r2 : (R : Int) + 9 = (R9 : Int) := by omega
            have hmk := make_cap R9 (by have := HRL.out; omega) wr
            obtain ⟨W1, hW1⟩ : ∃ W1, wr.alloc (.cells (madeCells #[.int .u8 0] R9) 5) = W1 := ⟨_, rfl⟩
            have uW : Up wr W1 := by rw [← hW1]; exact Up.alloc _ _
            have hoW : Own W1 5 wr.heap.size (.slice (some ⟨wr.heap.size, 0, none⟩) 0 R9) [] := by rw [← hW1]; exact own_cap R9 (by have := HRL.out; omega) wr
            have hsz1 : wr.heap.size ≤ W1.heap.size := uW.size
            rw [hW1] at hmk
            have k1 := (HAT.out W1 (UW.trans uW)).1
            have ksl := (HAT.out W1 (UW.trans uW)).2
            have HW1 : Hid (Up wr W1) := uW
            obtain ⟨bk, hbk⟩ : ∃ bk, wr.heap.size = bk := ⟨_, rfl⟩
            have HBK : Hid (wr.heap.size = bk) := hbk
            rw [hbk] at hmk hoW hsz1
            clear hi hG e hat hr htk hRl hR9 HRW hW1 uW hi2 hbk
            go_wp2_with (at_builtin; refine wpList_bytes_any _ rfl (.tmp 62) (.tmp 66) rfl bk 0 _ _ [] r rfl rfl ?h1 ksl ?h2 ?h3 ?_)
            case h1 => exact hoW
            case h2 => exact hsz1
            case h3 => have := HRL.out; simp; omega
            intro v5 w5 ho5 hg5
            have u5 : Up wr w5 := grown_up HW1.out hg5 (fun q hq => by cases hq; rw [HBK.out]; exact Nat.le_refl _)
            have H5 : Hid (Own w5 5 bk v5 (r ++ tail9.take 0) ∧ Up wr w5) := ⟨by simpa using ho5, u5⟩
            clear ho5 hg5 u5 hmk hoW hsz1 k0 k1 ksl
            obtain ⟨W0, hW0⟩ : ∃ W0, W0 = wr := ⟨_, rfl⟩
            subst hW0
            go_wp2_with fail
            go_loopg [11, 10] 9 (fun g p q2 wr => ∃ (j : Nat) (vb : Value), g = 9 - j ∧ p = .int .i64 (j : Int) ∧ vb = q2 ∧ Hid (j ≤ 9 ∧ Own wr 5 bk vb (r ++ tail9.take j) ∧ Up W0 wr))
            case atStart => exact ⟨0, v5, rfl, rfl, rfl, Nat.zero_le _, H5.out.1, H5.out.2⟩
            case round =>
              clear H5
              obtain ⟨j, vb, rfl, rfl, rfl, HJ⟩ := hrel
              have j0 : (0 : Int) ≤ (j : Int) := by omega
              by_cases hj : j < 9
              · have j1 : (j : Int) < 9 := by omega
                obtain ⟨C, hC⟩ : ∃ C : Nat, 208 + j = C := ⟨_, rfl⟩
                have c1 : (208 : Int) + (j : Int) = (C : Int) := by omega
                have c2 : (C : Int) ≤ 216 := by omega
                have c3 : (0 : Int) ≤ (C : Int) := by omega
                have HC : Hid (j < 9 ∧ (tail9[j]'hj).toNat = C ∧ tail9.take (j + 1) = tail9.take j ++ [tail9[j]'hj]) := ⟨hj, by rw [tail9_at j hj, hC], tail9_take j hj⟩
                obtain ⟨c, hc⟩ : ∃ c, tail9[j]'hj = c := ⟨_, rfl⟩
                rw [hc] at HC
                have hob := HJ.out.2.1
                have hszb : bk ≤ wr.heap.size + 1 := by have := HBK.out; have := HJ.out.2.2.size; omega
                clear hj hC hc
                go_wp2_with (at_builtin; refine wpList_bytes _ rfl (.tmp 72) (.tmp 76) rfl bk 0 vb (r ++ tail9.take j) [c] rfl ⟨wr.heap.size, 0, none⟩ 1 rfl ?h1 ?h2 ?h3 ?h4 ?_)
                case h1 => exact own_up hob (Up.alloc _ _)
                case h2 =>
                  rw [← HC.out.2.1]
                  exact (sl_built wr [c] 5 (0, 0)).mono (Nat.zero_le _)
                case h3 => simpa using hszb
                case h4 => have := HRL.out; simp only [List.length_append, List.length_take, List.length_cons, List.length_nil]; omega
                intro v6 w6 ho6 hg6
                have H6 : Hid (Own w6 5 bk v6 (r ++ tail9.take (j + 1)) ∧ Up W0 w6) := by
                  refine ⟨by rw [HC.out.2.2]; exact ho6, ?_⟩
                  exact grown_up (HJ.out.2.2.trans (Up.alloc _ _)) hg6 (fun q hq => by rw [HBK.out]; exact (World.ownsRow.lt hob q hq).1)
                clear ho6 hg6 hob hszb
                go_wp2_with fail
                go_roundg (9 - (j + 1))
                case measure => have := HC.out.1; omega
                case rel => exact ⟨j + 1, v6, rfl, by go_num, rfl, by have := HC.out.1; omega, H6.out.1, H6.out.2⟩
              · obtain rfl : j = 9 := by have := HJ.out.1; omega
                have hob := HJ.out.2.1
                have e9 : r ++ tail9.take 9 = r ++ tail9 := rfl
                rw [e9] at hob
                have hl9 : (r ++ tail9).length = R9 := by rw [List.length_append, HRL.out.1]; exact HRL.out.2.1
                obtain ⟨gb, cb, rfl, -⟩ := hob.some (by intro e; rw [e] at hl9; have := HRL.out.2.1; simp at hl9; omega)
                have hcb : R9 ≤ cb := by
                  obtain ⟨hl, ⟨e, _⟩ | ⟨g', cap', cur, e, hb, hg, hnc, hcm, hcs, ht⟩⟩ := hob
                  · cases e
                  · simp only [Value.slice.injEq, Option.some.injEq, Addr.mk.injEq] at e
                    obtain ⟨_, _, rfl⟩ := e
                    omega
                rw [hl9] at hob ⊢
                have UR : Up w wr := UW.trans HJ.out.2.2
                have k7 := (HAT.out wr UR).1
                have H7 : Hid (Own wr 5 bk (.slice (some ⟨gb, 0, none⟩) R9 cb) (r ++ tail9) ∧ Up W0 wr) := ⟨hob, HJ.out.2.2⟩
                have q1 : (R : Int) ≤ (cb : Int) := by have := HRL.out.2.1; omega
                have q2 : R ≤ cb := by have := HRL.out.2.1; omega
                have hrow : OwnV (wr.alloc (.cells #[.slice (some ⟨gb, 0, none⟩) R cb] 60)) w4.heap.size vg (List.zipWith gsl fs (Rs.take i)) := ownsRow_up HG.out.2.1.row (HJ.out.2.2.trans (Up.alloc _ _))
                have hszw : w4.heap.size ≤ (wr.alloc (.cells #[.slice (some ⟨gb, 0, none⟩) R cb] 60)).heap.size := (HG.out.2.2.trans (HJ.out.2.2.trans (Up.alloc _ _))).size
                have hcl : ∀ (q : Nat) (u : Value), ([.slice (some ⟨gb, 0, none⟩) R cb] : List Value)[q]? = some u → (wr.alloc (.cells #[.slice (some ⟨gb, 0, none⟩) R cb] 60)).cell? ((⟨wr.heap.size, 0, none⟩ : Addr).add q) = some u := by
                  intro q u hq
                  match q, hq with
                  | 0, hq => simp at hq; subst hq; rw [Addr.add_lit, cell_of_row _ _ _ _ _ _ (heap_alloc_new _ _)]; rfl
                have hlz : (List.zipWith gsl fs (Rs.take i)).length + ([.slice (some ⟨gb, 0, none⟩) R cb] : List Value).length ≤ 1000000000 := by
                  have h1 := HG.out.2.1.len
                  have h2 := HG.out.1
                  have h3 := HN8.out
                  rw [List.length_zipWith, h1, List.length_take]
                  simp only [List.length_cons, List.length_nil]
                  omega
                clear hob e9 hl9 hcb
                go_wp2_with (at_builtin; refine wpList_appVW _ rfl (.tmp 78) (.tmp 86) rfl w4.heap.size vg _ [.slice (some ⟨gb, 0, none⟩) R cb] rfl ⟨wr.heap.size, 0, none⟩ 1 rfl hrow hcl ?h1 hszw hlz ?h2 ?_)
                case h1 => intro u hu; simp at hu; subst hu; rfl
                case h2 => simp
                intro v8 w8 ho8 hg8 hm8
                have H8 : Hid (Up w4 w8 ∧ ∃ fs, GivR w8 w4.heap.size v8 (Rs.take (i + 1)) 0 fs) := by
                  refine ⟨?_, fs ++ [(gb, cb)], ?_⟩
                  · exact grown_up (HG.out.2.2.trans (H7.out.2.trans (Up.alloc _ _))) hg8 (fun q hq => (World.ownsRow.lt HG.out.2.1.row q hq).1)
                  · rw [HT.out.1]
                    refine HG.out.2.1.snoc (g := gb) (cap := cb) (r := r) (w2 := wr) HG.out.2.2.size H7.out.2 ?_ (Up.alloc _ _) ?_ hg8 (fun q hq => by simpa using hm8 q hq)
                    · rw [HBK.out]
                      show Own wr 5 bk (.slice (some ⟨gb, 0, none⟩) (r.length + 9) cb) (r ++ tail9)
                      rw [HRL.out.1, HRL.out.2.1]
                      exact H7.out.1
                    · show OwnV w8 w4.heap.size v8 (List.zipWith gsl fs (Rs.take i) ++ [.slice (some ⟨gb, 0, none⟩) r.length cb])
                      rw [HRL.out.1]
                      exact ho8
                clear ho8 hg8 hm8 hrow hszw hcl hlz
                go_wp2_with fail
                go_roundg (N - (i + 1))
                case measure => have := HG.out.1; omega
                case rel => exact ⟨i + 1, v8, rfl, by go_num, rfl, by have := HG.out.1; omega, H8.out.1, H8.out.2⟩
          · have hi1 : ¬ (i : Int) < (N : Int) := by omega
            have hiN : N = i := by have := HI.out.1; omega
            subst hiN
            obtain ⟨fs, hG⟩ := HI.out.2.2
            rw [List.take_of_length_le (by rw [HN.out]; exact Nat.le_refl _)] at hG
            have HG : Hid (GivR wr w4.heap.size vg Rs 0 fs ∧ Up w4 wr) := ⟨hG, HI.out.2.1⟩
            clear hG hi
            have U4 : Up w wr := HK.out.2.trans (H4.out.up.trans HG.out.2)
            have hge4 : ∀ f ∈ fs, w4.heap.size ≤ f.1 := fun f hf => (HG.out.1.ge f hf).1
            have hlt4 := H4.out.dsk.lt
            have hsb4 := H4.out.box.lt
            have HAW : Hid (w4.heap.size ≤ wr.heap.size ∧ (∀ k ∈ L4, k < w4.heap.size) ∧ sb < w4.heap.size ∧ (∀ k, vg.ownBlock = some k → w4.heap.size ≤ k)) := ⟨HG.out.2.size, hlt4, hsb4, fun k hk => (World.ownsRow.lt HG.out.1.row k hk).1⟩
            have key : Calls Tryz.prog 18 #[.pointer (some ⟨sb, 0, none⟩), vg] wr fun e w' => ∃ (TK : Bool) (GS : List (List Rec)) (F : Fil) (O P : Nat) (L7 : List Nat), (TK = true ∧ e = .returned .nilIface ∧ GS.flatten = Rs ∨ TK = false ∧ (∃ a, e = .returned (E a)) ∧ GS.flatten = []) ∧ F.Ok ∧ F.seen.data = pkB x GS ∧ F.seen.bad = [] ∧ Fits x GS ∧ O ≤ 4 ∧ P ≤ 4 ∧ 1 ≤ P ∧ O ≤ P ∧ DiskAt w' w1.heap.size db (sgD (nameB x) F O 0 (fun _ => none) 0 P) L7 ∧ Up w1 w' ∧ GivR w' w4.heap.size vg Rs 0 fs ∧ (∀ f ∈ fs, f.1 ∉ L7) := by
              have hs4 := H4.out.next HG.out.2
              by_cases hne : Rs = []
              · subst hne
                refine (SegAppend_none w1 wr db sb (nameB x) x 0 _ L4 vg hs4 HG.out.1.rw).mono ?_
                rintro e w7 ⟨rfl, hw7⟩
                subst hw7
                exact ⟨true, [], _, 2, 3, L4, .inl ⟨rfl, rfl, rfl⟩, made_empty, rfl, rfl, trivial, by omega, by omega, by omega, by omega, hs4.dsk, hs4.up, HG.out.1, fun f hf hm => by have := hlt4 _ hm; have := hge4 f hf; omega⟩
              · rcases pkE_cases ad x Rs hne with ⟨hnum, hlg, hpe, hpr⟩ | ⟨a, hpe, hpr⟩
                · have hpl := packB_le x Rs (anyLong_false hlg) HX.out.1 (by have h1 := hnum; have h2 := HX.out; have h3 := HN8.out; have h4 := HN.out; omega)
                  have hap := SegAppend_ok w1 wr db sb (nameB x) x 0 (Fil.made ⟨[], []⟩) 2 0 (fun _ => none) 0 3 L4 vg Rs ad hs4 HK.out.1 HG.out.1.rw hne (by have h3 := HN8.out; have h4 := HN.out; omega) (by have := HX.out; omega) hnum hlg (sg_goes _ _ _ _) made_empty (by omega) (by omega) (by omega) (by omega) (by have h3 := HN8.out; have h4 := HN.out; simp [Fil.made]; omega) (by omega) (by rw [nameB_length x (by have := HX.out; omega)]; omega) (fun k q h => by cases h)
                  refine hap.mono ?_
                  rintro e w7 ⟨L7, rfl, h7, hL7, t7⟩
                  have h200 := anyLong_false hlg
                  refine ⟨true, cutsB Rs.length Rs, _, 3, 4, L7, .inl ⟨rfl, rfl, cuts_flat _ _ h200 (Nat.le_refl _)⟩, made_empty.add _, by rw [add_data]; rfl, add_bad _ _ rfl, cuts_fit _ _ _ h200 HX.out.1 (by have h2 := HX.out; have h3 := HN8.out; have h4 := HN.out; omega), by omega, by omega, by omega, by omega, h7.dsk, h7.up, HG.out.1.kept t7 (fun f hf hm => ?_) (fun q hq hm => ?_), fun f hf hm => ?_⟩
                  · have := hge4 f hf
                    rcases List.mem_cons.1 hm with r | r
                    · omega
                    · have := hlt4 _ r; omega
                  · have := HAW.out.2.2.2 q hq
                    rcases List.mem_cons.1 hm with r | r
                    · omega
                    · have := hlt4 _ r; omega
                  · have := hge4 f hf
                    rcases hL7 _ hm with r | r
                    · have := hlt4 _ r; omega
                    · have := (HG.out.1.ge f hf).2.1; omega
                · refine (SegAppend_bad w1 wr db sb (nameB x) x 0 _ L4 vg Rs ad a hs4 HK.out.1 HG.out.1.rw hne (by have h3 := HN8.out; have h4 := HN.out; omega) (by have := HX.out; omega) hpe).mono ?_
                  rintro e w7 ⟨rfl, u7⟩
                  exact ⟨false, [], _, 2, 3, L4, .inr ⟨rfl, ⟨a, rfl⟩, rfl⟩, made_empty, rfl, rfl, trivial, by omega, by omega, by omega, by omega, hs4.dsk.up u7, hs4.up.trans u7, HG.out.1.kept (Touch.of_up u7 []) (fun _ _ => by simp) (fun _ _ => by simp), fun f hf hm => by have := hlt4 _ hm; have := hge4 f hf; omega⟩
            clear hge4 hlt4 hsb4 U4
            obtain ⟨agv, cgv, hvg⟩ : ∃ agv cgv, vg = .slice agv N cgv := by
              obtain ⟨a', c', e⟩ := HG.out.1.row.len
              have hz : (List.zipWith gsl fs Rs).length = N := by rw [List.length_zipWith, HG.out.1.len, HN.out]; omega
              rw [hz] at e
              exact ⟨a', c', e⟩
            subst hvg
            go_wp2_with fail
            refine key.mono ?_
            rintro e w7 ⟨TK, GS, F, O, P, L7, hTK, hF⟩
            clear key
            have HF7 : Hid (F.Ok ∧ F.seen.data = pkB x GS ∧ F.seen.bad = [] ∧ Fits x GS ∧ O ≤ 4 ∧ P ≤ 4 ∧ 1 ≤ P ∧ O ≤ P ∧ DiskAt w7 w1.heap.size db (sgD (nameB x) F O 0 (fun _ => none) 0 P) L7 ∧ Up w1 w7 ∧ GivR w7 w4.heap.size (.slice agv N cgv) Rs 0 fs ∧ (∀ f ∈ fs, f.1 ∉ L7)) := hF
            clear hF
            have HTK : Hid ((TK = true ∧ GS.flatten = Rs) ∨ (TK = false ∧ GS.flatten = [])) := by
              rcases hTK with ⟨h1, h2, h3⟩ | ⟨h1, h2, h3⟩
              · exact .inl ⟨h1, h3⟩
              · exact .inr ⟨h1, h3⟩
            have hcond : (TK = true ∧ e = .returned .nilIface) ∨ (TK = false ∧ ∃ a, e = .returned (E a)) := by
              rcases hTK with ⟨h1, h2, h3⟩ | ⟨h1, h2, h3⟩
              · exact .inl ⟨h1, h2⟩
              · exact .inr ⟨h1, h2⟩
            clear hTK
            rcases hcond with ⟨rfl, rfl⟩ | ⟨rfl, a, rfl⟩
            · go_wp2_with fail
              obtain ⟨wA, hwA⟩ : ∃ wA, wA = wr := ⟨_, rfl⟩
              subst hwA
              have HU7 : Hid (Up w w7 ∧ w.heap.size ≤ w4.heap.size ∧ w1.heap.size ≤ w4.heap.size) := ⟨HK.out.2.trans HF7.out.2.2.2.2.2.2.2.2.2.1, (HK.out.2.trans H4.out.up).size, H4.out.up.size⟩
              have HSF : Hid (∀ q ∈ fs.map Prod.fst, w4.heap.size ≤ q ∧ q ∉ L7) := by
                intro q hq
                obtain ⟨f, hf, rfl⟩ := List.mem_map.1 hq
                exact ⟨(HF7.out.2.2.2.2.2.2.2.2.2.2.1.ge f hf).1, HF7.out.2.2.2.2.2.2.2.2.2.2.2 f hf⟩
              have hag : (agv = none ∧ N = 0) ∨ (∃ gv, agv = some ⟨gv, 0, none⟩) := by
                rcases HF7.out.2.2.2.2.2.2.2.2.2.2.1.row.parts with ⟨e, e2⟩ | ⟨g, c, cur, e, _⟩
                · simp only [Value.slice.injEq] at e
                  exact .inl ⟨e.1, e.2.1⟩
                · simp only [Value.slice.injEq] at e
                  exact .inr ⟨g, e.1⟩
              have HAG : Hid ((agv = none ∧ N = 0) ∨ (∃ gv, agv = some ⟨gv, 0, none⟩)) := hag
              clear hag
              go_loopg [13] N (fun g p wr => ∃ k : Nat, g = N - k ∧ p = .int .i64 (k : Int) ∧ Hid (k ≤ N ∧ Touch w7 wr (fs.map Prod.fst) ∧ GivR wr w4.heap.size (.slice agv N cgv) Rs k fs))
              case atStart => exact ⟨0, rfl, rfl, Nat.zero_le _, Touch.refl _ _, HF7.out.2.2.2.2.2.2.2.2.2.2.1⟩
              case round =>
                obtain ⟨k, rfl, rfl, HL⟩ := hrel
                by_cases hk : k < N
                · obtain ⟨gv, rfl⟩ : ∃ gv, agv = some ⟨gv, 0, none⟩ := by
                    rcases HAG.out with ⟨h1, h2⟩ | h
                    · omega
                    · exact h
                  have hk1 : (k : Int) < (N : Int) := by omega
                  have hk0 : (0 : Int) ≤ (k : Int) := by omega
                  have hk2 : k < Rs.length := by have := HN.out; omega
                  have hkf : k < fs.length := by have := HL.out.2.2.len; omega
                  have UW : Up w wr := Touch.up_of HU7.out.1 HL.out.2.1 (fun q hq => Nat.le_trans HU7.out.2.1 (HSF.out q hq).1)
                  obtain ⟨gv', cv', ev, hcell⟩ := HL.out.2.2.at k hk2
                  have egv : gv = gv' := by
                    simp only [Value.slice.injEq, Option.some.injEq, Addr.mk.injEq] at ev
                    exact ev.1.1
                  subst egv
                  obtain ⟨f, hf⟩ : ∃ f, fs[k]'hkf = f := ⟨_, rfl⟩
                  obtain ⟨r, hr⟩ : ∃ r, Rs[k]'hk2 = r := ⟨_, rfl⟩
                  have hown := HL.out.2.2.each k hkf hk2 (Nat.le_refl _)
                  rw [hf, hr] at hown hcell
                  obtain ⟨gb, cb⟩ := f
                  obtain ⟨R, hRl⟩ : ∃ R, r.length = R := ⟨_, rfl⟩
                  obtain ⟨R9, hR9⟩ : ∃ R9, R + 9 = R9 := ⟨_, rfl⟩
                  have HRL : Hid (r.length = R ∧ R + 9 = R9 ∧ R ≤ 4194304) := ⟨hRl, hR9, by rw [← hRl, ← hr]; exact HR.out _ (List.getElem_mem hk2)⟩
                  have hown2 : Own wr 5 w4.heap.size (.slice (some ⟨gb, 0, none⟩) R9 cb) (r ++ tail9) := by
                    rw [← hR9, ← hRl]; exact hown
                  have hcell2 : wr.cell? ⟨gv, k, none⟩ = some (.slice (some ⟨gb, 0, none⟩) R cb) := by rw [hcell, ← hRl]
                  have HRW : Rw w (.slice ao Rs.length cap) Rs := by have h := HV.out.2.1; rw [HN.out]; exact h
                  obtain ⟨b, o, cap', vi, e, hat⟩ := HRW.at k hk2
                  obtain ⟨rfl, rfl⟩ : ao = some ⟨b, o, none⟩ ∧ cap = cap' := by simp only [Value.slice.injEq] at e; exact ⟨e.1, e.2.2⟩
                  rw [hr] at hat
                  obtain ⟨ai, ci, rfl⟩ := (hat wr UW).2.slice
                  rw [hRl] at hat
                  have HAT : Hid (∀ u, Up w u → u.cell? ⟨b, o + k, none⟩ = some (.slice ai R ci) ∧ Sl 0 u (.slice ai R ci) r) := hat
                  have q2 : R9 ≤ cb := by
                    obtain ⟨hl, ⟨e, _⟩ | ⟨g', cap', cur, e, hb, hg, hnc, hcm, hcs, ht⟩⟩ := hown2
                    · cases e
                    · simp only [Value.slice.injEq, Option.some.injEq, Addr.mk.injEq] at e
                      obtain ⟨_, rfl, rfl⟩ := e
                      exact hnc
                  have q1 : (R9 : Int) ≤ (cb : Int) := by omega
                  have r0 : (0 : Int) ≤ (R : Int) := by omega
                  have r1 : (R : Int) ≤ 4194304 := by have := HRL.out.2.2; omega
                  have r2 : (R : Int) + 9 = (R9 : Int) := by omega
                  have HFK : Hid (k < N ∧ (∃ h : k < fs.length, fs[k]'h = (gb, cb)) ∧ Own wr 5 w4.heap.size (.slice (some ⟨gb, 0, none⟩) R9 cb) (r ++ tail9) ∧ Up w wr) := ⟨hk, ⟨hkf, hf⟩, hown2, UW⟩
                  clear hk hf hr hown hcell hRl hR9 hown2 HRW e hat hk2 hkf UW ev
                  go_wp2_with fail
                  go_quiet (fail)
                  obtain ⟨w8, hw8⟩ : ∃ w8, wr.drewN nq = w8 := ⟨_, rfl⟩
                  have U8 : Up wr w8 := by rw [← hw8]; exact up_drewN _ _
                  have kk : w8.cell? ⟨gv, k, none⟩ = some (.slice (some ⟨gb, 0, none⟩) R cb) := by rw [← hw8]; exact hcell2
                  rw [hw8]
                  have HU8 : Hid (Up wr w8) := U8
                  have kr : w8.cell? ⟨b, o + k, none⟩ = some (.slice ai R ci) := (HAT.out _ (HFK.out.2.2.2.trans U8)).1
                  have hs1 : ∀ m, (convert 60 9 (.slice (some ⟨gb, 0, none⟩) R cb)).run Tryz.prog (w8.drewN m) = .ok (Sv r) (w8.drewN m) := fun m => sl_string (by
                    have h := own_head (own_up HFK.out.2.2.1 (U8.trans (up_drewN w8 m)))
                    rw [HRL.out.1] at h
                    exact h)
                  have hs2 : ∀ m, (convert 60 9 (.slice ai R ci)).run Tryz.prog (w8.drewN m) = .ok (Sv r) (w8.drewN m) := fun m => sl_string (HAT.out _ ((HFK.out.2.2.2.trans U8).trans (up_drewN _ _))).2
                  clear hw8 U8 hcell2
                  go_wp2_with fail
                  go_quiet (fail)
                  obtain ⟨w9, hw9⟩ : ∃ w9, w8.drewN nq = w9 := ⟨_, rfl⟩
                  have kk9 : w9.cell? ⟨gv, k, none⟩ = some (.slice (some ⟨gb, 0, none⟩) R cb) := by rw [← hw9]; exact kk
                  have HU9 : Hid (Up wr w9) := HU8.out.trans (by rw [← hw9]; exact up_drewN _ _)
                  rw [hw9]
                  clear hw9 kk kr hs1 hs2 HU8
                  obtain ⟨wB, hwB⟩ : ∃ wB, wB = wr := ⟨_, rfl⟩
                  subst hwB
                  go_wp2_with fail
                  go_loopg [15] 9 (fun g p wr => ∃ j : Nat, g = 9 - j ∧ p = .int .i64 (j : Int) ∧ Hid (j ≤ 9) ∧ w9 = wr)
                  case atStart => exact ⟨0, rfl, rfl, Nat.zero_le _, rfl⟩
                  case round =>
                    obtain ⟨j, rfl, rfl, HJ, rfl⟩ := hrel
                    have j0 : (0 : Int) ≤ (j : Int) := by omega
                    by_cases hj : j < 9
                    · have j1 : (j : Int) < 9 := by omega
                      obtain ⟨C, hC⟩ : ∃ C : Nat, 208 + j = C := ⟨_, rfl⟩
                      obtain ⟨X, hX⟩ : ∃ X : Nat, R + j = X := ⟨_, rfl⟩
                      have c1 : (208 : Int) + (j : Int) = (C : Int) := by omega
                      have c2 : (C : Int) ≤ 216 := by omega
                      have c3 : (0 : Int) ≤ (C : Int) := by omega
                      have x1 : (R : Int) + (j : Int) = (X : Int) := by omega
                      have x2 : (X : Int) < (R9 : Int) := by omega
                      have x3 : (0 : Int) ≤ (X : Int) := by omega
                      have kx : w9.cell? ⟨gb, X, none⟩ = some (.int .u8 (C : Int)) := by
                        have h := own_byte (own_up HFK.out.2.2.1 HU9.out) (R + j) (by rw [List.length_append, HRL.out.1]; show R + j < R + 9; omega)
                        rw [List.getElem_append_right (by rw [HRL.out.1]; omega)] at h
                        simp only [HRL.out.1, Nat.add_sub_cancel_left] at h
                        rw [← hX, h]
                        show some (Value.int .u8 (((tail9[j]'hj).toNat : Nat) : Int)) = _
                        rw [tail9_at j hj, hC]
                      have HJ2 : Hid (j < 9) := hj
                      clear hj hC hX
                      go_wp2_with fail
                      go_roundg (9 - (j + 1))
                      case measure => have := HJ2.out; omega
                      case rel => exact ⟨j + 1, rfl, by go_num, by have := HJ2.out; show _ ≤ _; omega, rfl⟩
                    · obtain rfl : j = 9 := by have := HJ.out; omega
                      clear hj j0
                      go_wp2_with fail
                      go_loopg [16] R9 (fun g p wr => ∃ m : Nat, g = R9 - m ∧ p = .int .i64 (m : Int) ∧ Hid (m ≤ R9 ∧ Touch w9 wr [gb] ∧ ∃ bs : List UInt8, bs.length = R9 ∧ Own wr 5 w4.heap.size (.slice (some ⟨gb, 0, none⟩) R9 cb) bs))
                      case atStart => exact ⟨0, rfl, rfl, Nat.zero_le _, Touch.refl _ _, _, by rw [List.length_append, HRL.out.1]; exact HRL.out.2.1, own_up HFK.out.2.2.1 HU9.out⟩
                      case round =>
                        obtain ⟨m, rfl, rfl, HM⟩ := hrel
                        have m0 : (0 : Int) ≤ (m : Int) := by omega
                        by_cases hm : m < R9
                        · obtain ⟨bs, hbl, hob⟩ := HM.out.2.2
                          have hmb : m < bs.length := by omega
                          have m1 : (m : Int) < (R9 : Int) := by omega
                          have m2 : (R9 : Int) ≤ 4194313 := by omega
                          have kc := own_byte hob m hmb
                          have kf : wr.frozen? ⟨gb, m, none⟩ = false := Own.not_frozen (t := m) hob
                          have H5 : Hid (m < R9 ∧ Touch w9 (wr.setCell ⟨gb, m, none⟩ (.int .u8 119)) [gb] ∧ ∃ bs : List UInt8, bs.length = R9 ∧ Own (wr.setCell ⟨gb, m, none⟩ (.int .u8 119)) 5 w4.heap.size (.slice (some ⟨gb, 0, none⟩) R9 cb) bs) :=
                            ⟨hm, HM.out.2.1.setCell (.inl (by simp)) _ _, _, by rw [List.length_set]; exact hbl, hob.set m hmb 119⟩
                          generalize bs[m] = c0 at kc
                          clear hm hbl hob hmb
                          go_wp2_with fail
                          go_roundg (R9 - (m + 1))
                          case measure => have := H5.out.1; omega
                          case rel => exact ⟨m + 1, rfl, by go_num, H5.out.1, H5.out.2.1, H5.out.2.2⟩
                        · have m1 : ¬ (m : Int) < (R9 : Int) := by omega
                          have hm9 : R9 = m := by have := HM.out.1; omega
                          have H6 : Hid (Touch w7 wr (fs.map Prod.fst) ∧ GivR wr w4.heap.size (.slice (some ⟨gv, 0, none⟩) N cgv) Rs (k + 1) fs) := by
                            obtain ⟨hkf, hfe⟩ := HFK.out.2.1
                            have hmem : gb ∈ fs.map Prod.fst := List.mem_map.2 ⟨_, List.getElem_mem hkf, by rw [hfe]⟩
                            have t1 : Touch wB wr [gb] := (Touch.of_up HU9.out [gb]).trans HM.out.2.1 (fun q hq => .inl hq)
                            refine ⟨HL.out.2.1.trans t1 (fun q hq => .inl (by simp at hq; rw [hq]; exact hmem)), HL.out.2.2.fill hkf ?_⟩
                            rw [hfe]
                            exact t1
                          clear hm hm9
                          go_wp2_with fail
                          go_roundg (N - (k + 1))
                          case measure => have := HFK.out.1; omega
                          case rel => exact ⟨k + 1, rfl, by go_num, by have := HFK.out.1; omega, H6.out.1, H6.out.2⟩
                · have hk1 : ¬ (k : Int) < (N : Int) := by omega
                  have UX : Up w1 wr := Touch.up_of HF7.out.2.2.2.2.2.2.2.2.2.1 HL.out.2.1 (fun q hq => Nat.le_trans HU7.out.2.2 (HSF.out q hq).1)
                  have DX := HF7.out.2.2.2.2.2.2.2.2.1.kept HL.out.2.1 (fun q hq hm => (HSF.out q hm).2 hq)
                  obtain ⟨M, hM⟩ : ∃ M, GS.flatten.length = M := ⟨_, rfl⟩
                  have HM0 : Hid (GS.flatten.length = M ∧ M ≤ 524288 ∧ (∀ r ∈ GS.flatten, r.length ≤ 4194304)) := by
                    refine ⟨hM, ?_, ?_⟩
                    · have h8 := HN8.out
                      have hn := HN.out
                      rcases HTK.out with ⟨_, h⟩ | ⟨_, h⟩
                      · rw [h] at hM; omega
                      · rw [h] at hM; simp at hM; omega
                    · rcases HTK.out with ⟨_, h⟩ | ⟨_, h⟩
                      · rw [h]; exact HR.out
                      · rw [h]; intro r hr; cases hr
                  have hfit := HF7.out.2.2.2.1
                  have hlen := pkB_length x GS hfit
                  have hmany : GS.length ≤ M := by have h := hfit.many; rw [← hM]; exact h
                  have hdl : F.seen.data.length ≤ 268435456 := by rw [HF7.out.2.1, hlen]; have := HM0.out.2.1; omega
                  have hop : ∀ W : World, Up w1 W → DiskAt W w1.heap.size db (sgD (nameB x) F O 0 (fun _ => none) 0 P) L7 → Calls Tryz.prog 22 #[.pointer (some ⟨db, 0, none⟩), .int .u64 (x : Int)] W fun e w' => ∃ sb v' vs B, e = .returned (.tuple #[.pointer (some ⟨sb, 0, none⟩), v', .nilIface]) ∧ Recs w' B v' GS.flatten vs ∧ Up W w' ∧ W.heap.size ≤ B := fun W uu dd =>
                    (SegOpen_any w1 W db x F O 0 (fun _ => none) 0 P L7 ad HK.out.1 uu dd HX.out.1 (by have := HX.out.2; omega) HF7.out.1 HF7.out.2.2.1 (by omega) (GS.flatten, GS.length) (by rw [HF7.out.2.1]; exact hfit.scan) (by show GS.flatten.length ≤ _; have := HM0.out.2.1; omega) (by show GS.length ≤ _; have := HM0.out.2.1; omega)).mono (by
                      rintro e w' ⟨sb, v', vs, B, h1, _, h3, h4, _, h6⟩
                      exact ⟨sb, v', vs, B, h1, h3, h4, h6⟩)
                  have HOP : Hid _ := hop
                  have hop1 := hop wr UX DX
                  have HDX : Hid (Up w1 wr ∧ DiskAt wr w1.heap.size db (sgD (nameB x) F O 0 (fun _ => none) 0 P) L7 ∧ Up w wr) := ⟨UX, DX, HK.out.2.trans UX⟩
                  clear hk UX DX hM hfit hlen hmany hdl hop
                  obtain ⟨wC, hwC⟩ : ∃ wC, wC = wr := ⟨_, rfl⟩
                  subst hwC
                  go_wp2_with fail
                  refine hop1.mono ?_
                  rintro e wa ⟨sb1, v18, vs18, B18, rfl, r18, u18, n18⟩
                  clear hop1
                  obtain ⟨a18, c18, rfl⟩ := r18.slice
                  rw [HM0.out.1] at r18 ⊢
                  have H18 : Hid (Recs wa B18 (.slice a18 M c18) GS.flatten vs18 ∧ Up wC wa ∧ wC.heap.size ≤ B18) := ⟨r18, u18, n18⟩
                  have hop2 := HOP.out wa (HDX.out.1.trans u18) (HDX.out.2.1.up u18)
                  clear r18 u18 n18 HOP
                  go_wp2_with fail
                  refine hop2.mono ?_
                  rintro e wb ⟨sb2, v20, vs20, B20, rfl, r20, u20, n20⟩
                  clear hop2
                  obtain ⟨a20, c20, rfl⟩ := r20.slice
                  rw [HM0.out.1] at r20 ⊢
                  have H20 : Hid (Recs wb B20 (.slice a20 M c20) GS.flatten vs20 ∧ Up wa wb ∧ wa.heap.size ≤ B20) := ⟨r20, u20, n20⟩
                  clear r20 u20 n20
                  have hgf : GS.flatten = Rs := by
                    rcases HTK.out with ⟨_, h⟩ | ⟨h, _⟩
                    · exact h
                    · cases h
                  have HGF : Hid (GS.flatten = Rs ∧ M = N) := ⟨hgf, by rw [← HM0.out.1, hgf]; exact HN.out⟩
                  have hls := lists_any (.slice a18 M c18) (.slice ao N cap) GS.flatten wb (H18.out.1.up H20.out.2.1).rw (by rw [hgf]; exact HV.out.2.1.up ((HDX.out.2.2.trans H18.out.2.1).trans H20.out.2.1)) (by rw [HM0.out.1]; have := HM0.out.2.1; omega)
                  clear hgf
                  go_wp2_with fail
                  refine hls.mono ?_
                  rintro e wc ⟨rfl, nd, hwc⟩
                  clear hls
                  have ub : Up wb wc := by rw [hwc]; exact up_drewN _ _
                  clear hwc
                  have HC : Hid (Up wb wc ∧ Up w wc) := ⟨ub, ((HDX.out.2.2.trans H18.out.2.1).trans H20.out.2.1).trans ub⟩
                  clear ub
                  have M0 : (0 : Int) ≤ (M : Int) := by omega
                  have M1 : (M : Int) ≤ 524288 := by have := HM0.out.2.1; omega
                  go_wp2_with fail
                  go_loopg [22] M (fun g p wr => ∃ i : Nat, g = M - i ∧ p = .int .i64 (i : Int) ∧ Hid (i ≤ M ∧ ∃ L vs, MkR w wc wr B18 wa.heap.size (.slice a18 M c18) M i 0 L vs))
                  case atStart =>
                    refine ⟨0, rfl, rfl, Nat.zero_le _, GS.flatten, vs18, ?_⟩
                    have h := MkR.start H18.out.1 (H20.out.2.1.trans HC.out.1) (Nat.le_trans HDX.out.2.2.size H18.out.2.2) HC.out.2 HM0.out.2.2
                    rw [HM0.out.1] at h
                    exact h
                  case round =>
                    obtain ⟨i, rfl, rfl, HI⟩ := hrel
                    have i0 : (0 : Int) ≤ (i : Int) := by omega
                    by_cases hi : i < M
                    · have i1 : (i : Int) < (M : Int) := by omega
                      obtain ⟨L, vs, hmk⟩ := HI.out.2
                      obtain ⟨hL, hv, g, cp, al, cl, ev, evs, hc, hom⟩ := hmk.cell i hi
                      obtain ⟨rfl, rfl⟩ : a18 = some ⟨g, 0, none⟩ ∧ c18 = cp := by simp only [Value.slice.injEq] at ev; exact ⟨ev.1, ev.2.2⟩
                      obtain ⟨R, hR⟩ : ∃ R, (L[i]'hL).length = R := ⟨_, rfl⟩
                      have R0 : (0 : Int) ≤ (R : Int) := by omega
                      have R1 : (R : Int) ≤ 4194307 := by have := hmk.sm.le hL; omega
                      rw [hR] at evs hc hom
                      have H0 : Hid (i < M ∧ R ≤ 4194307 ∧ MkR w wc wr B18 wa.heap.size (.slice (some ⟨g, 0, none⟩) M c18) M i 0 L vs ∧ ∃ (hL : i < L.length) (hv : i < vs.length), vs[i]'hv = .slice al R cl ∧ (L[i]'hL).length = R) := ⟨hi, by omega, hmk, hL, hv, evs, hR⟩
                      obtain ⟨C, hC⟩ : ∃ C : Nat, (UInt8.ofNat i).toNat = C := ⟨_, rfl⟩
                      have HC2 : Hid ((UInt8.ofNat i).toNat = C) := hC
                      have cw : IntKind.u8.wrap (i : Int) = (C : Int) := by rw [← hC]; exact wrap_u8 i
                      clear hi ev evs hc hom hR hmk hC hL hv
                      go_wp2_with fail
                      go_loopg [23] R (fun g' p wr => ∃ t : Nat, g' = R - t ∧ p = .int .i64 (t : Int) ∧ Hid (t ≤ R ∧ ∃ L vs, MkR w wc wr B18 wa.heap.size (.slice (some ⟨g, 0, none⟩) M c18) M i t L vs ∧ ∃ (hL : i < L.length) (hv : i < vs.length), vs[i]'hv = .slice al R cl ∧ (L[i]'hL).length = R))
                      case atStart => exact ⟨0, rfl, rfl, Nat.zero_le _, L, vs, H0.out.2.2.1, H0.out.2.2.2⟩
                      case round =>
                        obtain ⟨t, rfl, rfl, HT⟩ := hrel
                        have t0 : (0 : Int) ≤ (t : Int) := by omega
                        obtain ⟨L2, vs2, hmk, hL, hv, evs, hR⟩ := HT.out.2
                        have kc : wr.cell? ⟨g, i, none⟩ = some (.slice al R cl) := by rw [← evs]; exact (hmk.rowcell hL hv (Up.refl _) (World.grownBy.refl _ _)).1
                        by_cases ht : t < R
                        · have t1 : (t : Int) < (R : Int) := by omega
                          have hom := hmk.recs.each i hv hL
                          rw [evs] at hom
                          obtain ⟨gl, rfl, -, kb, kf⟩ := hom.byte t (by omega)
                          generalize (L2[i]'hL)[t]'(by omega) = c0 at kb
                          have hst := hmk.store hL hv evs (by omega)
                          have hB : B (UInt8.ofNat i) = .int .u8 (C : Int) := by show Value.int .u8 (((UInt8.ofNat i).toNat : Nat) : Int) = _; rw [HC2.out]
                          rw [hB] at hst
                          have HST : Hid (t < R ∧ ∃ L vs, MkR w wc (wr.setCell ⟨gl, t, none⟩ (.int .u8 (C : Int))) B18 wa.heap.size (.slice (some ⟨g, 0, none⟩) M c18) M i (t + 1) L vs ∧ ∃ (hL : i < L.length) (hv : i < vs.length), vs[i]'hv = .slice (some ⟨gl, 0, none⟩) R cl ∧ (L[i]'hL).length = R) :=
                            ⟨ht, _, _, hst, by rw [List.length_set]; exact hL, hv, evs, by rw [List.getElem_set_self, List.length_set]; exact hR⟩
                          clear ht hom hst hB hmk hL hv evs hR
                          go_wp2_with fail
                          go_roundg (R - (t + 1))
                          case measure => have := HST.out.1; omega
                          case rel => exact ⟨t + 1, rfl, by go_num, HST.out.1, HST.out.2⟩
                        · have t1 : ¬ (t : Int) < (R : Int) := by omega
                          have hom := hmk.recs.each i hv hL
                          have HMK : Hid (t = R ∧ MkR w wc wr B18 wa.heap.size (.slice (some ⟨g, 0, none⟩) M c18) M i t L2 vs2 ∧ OwnM wr B18 (vs2[i]'hv) (L2[i]'hL) ∧ vs2[i]'hv = .slice al R cl ∧ (L2[i]'hL).length = R) := ⟨by have := HT.out.1; omega, hmk, hom, evs, hR⟩
                          have hom2 : OwnM wr B18 (.slice al R cl) (L2[i]'hL) := by rw [← evs]; exact hom
                          have hszB : B18 ≤ wr.heap.size := by have h1 := H18.out.1.row; have h2 := hmk.size; have h3 := (World.ownsRow.lt h1 g rfl); have h4 := (H20.out.2.1.trans HC.out.1).size; omega
                          clear hmk hom evs ht
                          go_wp2_with (at_builtin; refine wpList_bytesM _ rfl (.tmp 213) (.tmp 220) rfl B18 (.slice al R cl) (L2[i]'hL) [UInt8.ofNat i, UInt8.ofNat i, UInt8.ofNat i] rfl ⟨wr.heap.size, 0, none⟩ 3 rfl ?pt1 ?pt2 ?pt3 ?pt4 ?pt5 ?_)
                          case pt1 => exact hom2.up (Up.alloc _ _)
                          case pt2 =>
                            rw [← HC2.out]
                            exact fun j u h => h
                          case pt3 => have := (Up.alloc wr (.cells #[.int .u8 (C : Int), .int .u8 (C : Int), .int .u8 (C : Int)] 5)).size; omega
                          case pt4 => have := H0.out.2.1; omega
                          intro v6 w6 ho6 hg6 hm6
                          obtain ⟨a6, c6, rfl⟩ := ho6.shape
                          obtain ⟨R3, hR3⟩ : ∃ R3, (L2[i]'hL ++ [UInt8.ofNat i, UInt8.ofNat i, UInt8.ofNat i]).length = R3 := ⟨_, rfl⟩
                          rw [hR3] at ho6 hm6 ⊢
                          clear hR3
                          have hg6b := hg6
                          have hm6b := hm6
                          rw [← HMK.out.2.2.2.1] at hg6b hm6b
                          have H8 : Hid (∃ L vs, MkR w wc (w6.setCell ⟨g, i, none⟩ (.slice a6 R3 c6)) B18 wa.heap.size (.slice (some ⟨g, 0, none⟩) M c18) M (i + 1) 0 L vs) := ⟨_, _, HMK.out.2.1.grow hL hv (by rw [HMK.out.2.2.2.2]; exact HMK.out.1) (Up.alloc _ _) ho6 hg6b (fun q hq => (hm6b q hq).imp id (fun h => by simpa using h))⟩
                          obtain ⟨k6, f6⟩ := HMK.out.2.1.rowcell hL hv (Up.alloc _ _) hg6b
                          rw [HMK.out.2.2.2.1] at k6
                          clear ho6 hg6 hm6 hg6b hm6b hom2 hR kc
                          go_wp2_with fail
                          go_roundg (M - (i + 1))
                          case measure => have := H0.out.1; omega
                          case rel => exact ⟨i + 1, rfl, by go_num, H0.out.1, H8.out⟩
                    · have i1 : ¬ (i : Int) < (M : Int) := by omega
                      have hiM : M = i := by have := HI.out.1; omega
                      obtain ⟨L, vs, hmk⟩ := HI.out.2
                      have HMK : Hid (MkR w wc wr B18 wa.heap.size (.slice a18 M c18) M M 0 L vs) := by rw [← hiM] at hmk; exact hmk
                      clear hi hiM hmk HI
                      obtain ⟨wD, hwD⟩ : ∃ wD, wD = wr := ⟨_, rfl⟩
                      subst hwD
                      go_wp2_with fail
                      clear i1 i0
                      go_loopg [24] M (fun g p wr => ∃ i : Nat, g = M - i ∧ p = .int .i64 (i : Int) ∧ Hid (i ≤ M) ∧ wD = wr)
                      case atStart => exact ⟨0, rfl, rfl, Nat.zero_le _, rfl⟩
                      case round =>
                        obtain ⟨n, rfl, rfl, HI, rfl⟩ := hrel
                        have n0 : (0 : Int) ≤ (n : Int) := by omega
                        by_cases hn : n < M
                        · have n1 : (n : Int) < (M : Int) := by omega
                          obtain ⟨hL, hv, g, cp, al, cl, ev, evs, hc, hom⟩ := HMK.out.cell n hn
                          obtain ⟨rfl, rfl⟩ : a18 = some ⟨g, 0, none⟩ ∧ c18 = cp := by simp only [Value.slice.injEq] at ev; exact ⟨ev.1, ev.2.2⟩
                          obtain ⟨R, hR⟩ : ∃ R, (L[n]'hL).length = R := ⟨_, rfl⟩
                          have R0 : (0 : Int) ≤ (R : Int) := by omega
                          have R1 : (R : Int) ≤ 4194307 := by have := HMK.out.sm.le hL; omega
                          rw [hR] at hc hom
                          have H0 : Hid (n < M ∧ R ≤ 4194307 ∧ OwnM wD B18 (.slice al R cl) (L[n]'hL) ∧ (L[n]'hL).length = R) := ⟨hn, by omega, hom, hR⟩
                          obtain ⟨C, hC⟩ : ∃ C : Nat, (UInt8.ofNat n).toNat = C := ⟨_, rfl⟩
                          have HC2 : Hid ((UInt8.ofNat n).toNat = C) := hC
                          have cw : IntKind.u8.wrap (n : Int) = (C : Int) := by rw [← hC]; exact wrap_u8 n
                          clear hn ev evs hom hR hC hv
                          go_wp2_with fail
                          go_loopg [25] R (fun g' p wr => ∃ t : Nat, g' = R - t ∧ p = .int .i64 (t : Int) ∧ Hid (t ≤ R) ∧ wD = wr)
                          case atStart => exact ⟨0, rfl, rfl, Nat.zero_le _, rfl⟩
                          case round =>
                            obtain ⟨t, rfl, rfl, HT, rfl⟩ := hrel
                            have t0 : (0 : Int) ≤ (t : Int) := by omega
                            by_cases ht : t < R
                            · have t1 : (t : Int) < (R : Int) := by omega
                              have htl : t < (L[n]'hL).length := by rw [H0.out.2.2.2]; exact ht
                              obtain ⟨gl, rfl, -, kb, -⟩ := H0.out.2.2.1.byte t htl
                              have hd := HMK.out.done n _ (List.getElem?_eq_getElem hL) t _ (List.getElem?_eq_getElem htl) (.inl H0.out.1)
                              rw [hd] at kb
                              have kb2 : wD.cell? ⟨gl, t, none⟩ = some (.int .u8 (C : Int)) := by rw [kb]; show some (Value.int .u8 (((UInt8.ofNat n).toNat : Nat) : Int)) = _; rw [HC2.out]
                              have HT2 : Hid (t < R) := ht
                              clear kb hd htl ht
                              go_wp2_with fail
                              go_roundg (R - (t + 1))
                              case measure => have := HT2.out; omega
                              case rel => exact ⟨t + 1, rfl, by go_num, HT2.out, rfl⟩
                            · have t1 : ¬ (t : Int) < (R : Int) := by omega
                              clear ht
                              go_wp2_with fail
                              go_roundg (M - (n + 1))
                              case measure => have := H0.out.1; omega
                              case rel => exact ⟨n + 1, rfl, by go_num, H0.out.1, rfl⟩
                        · have n1 : ¬ (n : Int) < (M : Int) := by omega
                          clear hn
                          have r20 := HMK.out.same (H20.out.1.up HC.out.1) H20.out.2.2
                          have hls := lists_any (.slice a20 M c20) (.slice ao N cap) GS.flatten wD r20.rw (by rw [HGF.out.1]; exact HV.out.2.1.up HMK.out.up) (by rw [HM0.out.1]; have := HM0.out.2.1; omega)
                          clear r20
                          go_wp2_with fail
                          refine hls.mono ?_
                          rintro e wE ⟨rfl, nd, hwE⟩
                          clear hls
                          have UE : Up w wE := HMK.out.up.trans (by rw [hwE]; exact up_drewN _ _)
                          clear hwE
                          go_wp2
                          go_ret
                          exact ⟨rfl, UE⟩
            · go_wp2_with fail
              obtain ⟨wA, hwA⟩ : ∃ wA, wA = wr := ⟨_, rfl⟩
              subst hwA
              have HU7 : Hid (Up w w7 ∧ w.heap.size ≤ w4.heap.size ∧ w1.heap.size ≤ w4.heap.size) := ⟨HK.out.2.trans HF7.out.2.2.2.2.2.2.2.2.2.1, (HK.out.2.trans H4.out.up).size, H4.out.up.size⟩
              have HSF : Hid (∀ q ∈ fs.map Prod.fst, w4.heap.size ≤ q ∧ q ∉ L7) := by
                intro q hq
                obtain ⟨f, hf, rfl⟩ := List.mem_map.1 hq
                exact ⟨(HF7.out.2.2.2.2.2.2.2.2.2.2.1.ge f hf).1, HF7.out.2.2.2.2.2.2.2.2.2.2.2 f hf⟩
              have hag : (agv = none ∧ N = 0) ∨ (∃ gv, agv = some ⟨gv, 0, none⟩) := by
                rcases HF7.out.2.2.2.2.2.2.2.2.2.2.1.row.parts with ⟨e, e2⟩ | ⟨g, c, cur, e, _⟩
                · simp only [Value.slice.injEq] at e
                  exact .inl ⟨e.1, e.2.1⟩
                · simp only [Value.slice.injEq] at e
                  exact .inr ⟨g, e.1⟩
              have HAG : Hid ((agv = none ∧ N = 0) ∨ (∃ gv, agv = some ⟨gv, 0, none⟩)) := hag
              clear hag
              go_loopg [13] N (fun g p wr => ∃ k : Nat, g = N - k ∧ p = .int .i64 (k : Int) ∧ Hid (k ≤ N ∧ Touch w7 wr (fs.map Prod.fst) ∧ GivR wr w4.heap.size (.slice agv N cgv) Rs k fs))
              case atStart => exact ⟨0, rfl, rfl, Nat.zero_le _, Touch.refl _ _, HF7.out.2.2.2.2.2.2.2.2.2.2.1⟩
              case round =>
                obtain ⟨k, rfl, rfl, HL⟩ := hrel
                by_cases hk : k < N
                · obtain ⟨gv, rfl⟩ : ∃ gv, agv = some ⟨gv, 0, none⟩ := by
                    rcases HAG.out with ⟨h1, h2⟩ | h
                    · omega
                    · exact h
                  have hk1 : (k : Int) < (N : Int) := by omega
                  have hk0 : (0 : Int) ≤ (k : Int) := by omega
                  have hk2 : k < Rs.length := by have := HN.out; omega
                  have hkf : k < fs.length := by have := HL.out.2.2.len; omega
                  have UW : Up w wr := Touch.up_of HU7.out.1 HL.out.2.1 (fun q hq => Nat.le_trans HU7.out.2.1 (HSF.out q hq).1)
                  obtain ⟨gv', cv', ev, hcell⟩ := HL.out.2.2.at k hk2
                  have egv : gv = gv' := by
                    simp only [Value.slice.injEq, Option.some.injEq, Addr.mk.injEq] at ev
                    exact ev.1.1
                  subst egv
                  obtain ⟨f, hf⟩ : ∃ f, fs[k]'hkf = f := ⟨_, rfl⟩
                  obtain ⟨r, hr⟩ : ∃ r, Rs[k]'hk2 = r := ⟨_, rfl⟩
                  have hown := HL.out.2.2.each k hkf hk2 (Nat.le_refl _)
                  rw [hf, hr] at hown hcell
                  obtain ⟨gb, cb⟩ := f
                  obtain ⟨R, hRl⟩ : ∃ R, r.length = R := ⟨_, rfl⟩
                  obtain ⟨R9, hR9⟩ : ∃ R9, R + 9 = R9 := ⟨_, rfl⟩
                  have HRL : Hid (r.length = R ∧ R + 9 = R9 ∧ R ≤ 4194304) := ⟨hRl, hR9, by rw [← hRl, ← hr]; exact HR.out _ (List.getElem_mem hk2)⟩
                  have hown2 : Own wr 5 w4.heap.size (.slice (some ⟨gb, 0, none⟩) R9 cb) (r ++ tail9) := by
                    rw [← hR9, ← hRl]; exact hown
                  have hcell2 : wr.cell? ⟨gv, k, none⟩ = some (.slice (some ⟨gb, 0, none⟩) R cb) := by rw [hcell, ← hRl]
                  have HRW : Rw w (.slice ao Rs.length cap) Rs := by have h := HV.out.2.1; rw [HN.out]; exact h
                  obtain ⟨b, o, cap', vi, e, hat⟩ := HRW.at k hk2
                  obtain ⟨rfl, rfl⟩ : ao = some ⟨b, o, none⟩ ∧ cap = cap' := by simp only [Value.slice.injEq] at e; exact ⟨e.1, e.2.2⟩
                  rw [hr] at hat
                  obtain ⟨ai, ci, rfl⟩ := (hat wr UW).2.slice
                  rw [hRl] at hat
                  have HAT : Hid (∀ u, Up w u → u.cell? ⟨b, o + k, none⟩ = some (.slice ai R ci) ∧ Sl 0 u (.slice ai R ci) r) := hat
                  have q2 : R9 ≤ cb := by
                    obtain ⟨hl, ⟨e, _⟩ | ⟨g', cap', cur, e, hb, hg, hnc, hcm, hcs, ht⟩⟩ := hown2
                    · cases e
                    · simp only [Value.slice.injEq, Option.some.injEq, Addr.mk.injEq] at e
                      obtain ⟨_, rfl, rfl⟩ := e
                      exact hnc
                  have q1 : (R9 : Int) ≤ (cb : Int) := by omega
                  have r0 : (0 : Int) ≤ (R : Int) := by omega
                  have r1 : (R : Int) ≤ 4194304 := by have := HRL.out.2.2; omega
                  have r2 : (R : Int) + 9 = (R9 : Int) := by omega
                  have HFK : Hid (k < N ∧ (∃ h : k < fs.length, fs[k]'h = (gb, cb)) ∧ Own wr 5 w4.heap.size (.slice (some ⟨gb, 0, none⟩) R9 cb) (r ++ tail9) ∧ Up w wr) := ⟨hk, ⟨hkf, hf⟩, hown2, UW⟩
                  clear hk hf hr hown hcell hRl hR9 hown2 HRW e hat hk2 hkf UW ev
                  go_wp2_with fail
                  go_quiet (fail)
                  obtain ⟨w8, hw8⟩ : ∃ w8, wr.drewN nq = w8 := ⟨_, rfl⟩
                  have U8 : Up wr w8 := by rw [← hw8]; exact up_drewN _ _
                  have kk : w8.cell? ⟨gv, k, none⟩ = some (.slice (some ⟨gb, 0, none⟩) R cb) := by rw [← hw8]; exact hcell2
                  rw [hw8]
                  have HU8 : Hid (Up wr w8) := U8
                  have kr : w8.cell? ⟨b, o + k, none⟩ = some (.slice ai R ci) := (HAT.out _ (HFK.out.2.2.2.trans U8)).1
                  have hs1 : ∀ m, (convert 60 9 (.slice (some ⟨gb, 0, none⟩) R cb)).run Tryz.prog (w8.drewN m) = .ok (Sv r) (w8.drewN m) := fun m => sl_string (by
                    have h := own_head (own_up HFK.out.2.2.1 (U8.trans (up_drewN w8 m)))
                    rw [HRL.out.1] at h
                    exact h)
                  have hs2 : ∀ m, (convert 60 9 (.slice ai R ci)).run Tryz.prog (w8.drewN m) = .ok (Sv r) (w8.drewN m) := fun m => sl_string (HAT.out _ ((HFK.out.2.2.2.trans U8).trans (up_drewN _ _))).2
                  clear hw8 U8 hcell2
                  go_wp2_with fail
                  go_quiet (fail)
                  obtain ⟨w9, hw9⟩ : ∃ w9, w8.drewN nq = w9 := ⟨_, rfl⟩
                  have kk9 : w9.cell? ⟨gv, k, none⟩ = some (.slice (some ⟨gb, 0, none⟩) R cb) := by rw [← hw9]; exact kk
                  have HU9 : Hid (Up wr w9) := HU8.out.trans (by rw [← hw9]; exact up_drewN _ _)
                  rw [hw9]
                  clear hw9 kk kr hs1 hs2 HU8
                  obtain ⟨wB, hwB⟩ : ∃ wB, wB = wr := ⟨_, rfl⟩
                  subst hwB
                  go_wp2_with fail
                  go_loopg [15] 9 (fun g p wr => ∃ j : Nat, g = 9 - j ∧ p = .int .i64 (j : Int) ∧ Hid (j ≤ 9) ∧ w9 = wr)
                  case atStart => exact ⟨0, rfl, rfl, Nat.zero_le _, rfl⟩
                  case round =>
                    obtain ⟨j, rfl, rfl, HJ, rfl⟩ := hrel
                    have j0 : (0 : Int) ≤ (j : Int) := by omega
                    by_cases hj : j < 9
                    · have j1 : (j : Int) < 9 := by omega
                      obtain ⟨C, hC⟩ : ∃ C : Nat, 208 + j = C := ⟨_, rfl⟩
                      obtain ⟨X, hX⟩ : ∃ X : Nat, R + j = X := ⟨_, rfl⟩
                      have c1 : (208 : Int) + (j : Int) = (C : Int) := by omega
                      have c2 : (C : Int) ≤ 216 := by omega
                      have c3 : (0 : Int) ≤ (C : Int) := by omega
                      have x1 : (R : Int) + (j : Int) = (X : Int) := by omega
                      have x2 : (X : Int) < (R9 : Int) := by omega
                      have x3 : (0 : Int) ≤ (X : Int) := by omega
                      have kx : w9.cell? ⟨gb, X, none⟩ = some (.int .u8 (C : Int)) := by
                        have h := own_byte (own_up HFK.out.2.2.1 HU9.out) (R + j) (by rw [List.length_append, HRL.out.1]; show R + j < R + 9; omega)
                        rw [List.getElem_append_right (by rw [HRL.out.1]; omega)] at h
                        simp only [HRL.out.1, Nat.add_sub_cancel_left] at h
                        rw [← hX, h]
                        show some (Value.int .u8 (((tail9[j]'hj).toNat : Nat) : Int)) = _
                        rw [tail9_at j hj, hC]
                      have HJ2 : Hid (j < 9) := hj
                      clear hj hC hX
                      go_wp2_with fail
                      go_roundg (9 - (j + 1))
                      case measure => have := HJ2.out; omega
                      case rel => exact ⟨j + 1, rfl, by go_num, by have := HJ2.out; show _ ≤ _; omega, rfl⟩
                    · obtain rfl : j = 9 := by have := HJ.out; omega
                      clear hj j0
                      go_wp2_with fail
                      go_loopg [16] R9 (fun g p wr => ∃ m : Nat, g = R9 - m ∧ p = .int .i64 (m : Int) ∧ Hid (m ≤ R9 ∧ Touch w9 wr [gb] ∧ ∃ bs : List UInt8, bs.length = R9 ∧ Own wr 5 w4.heap.size (.slice (some ⟨gb, 0, none⟩) R9 cb) bs))
                      case atStart => exact ⟨0, rfl, rfl, Nat.zero_le _, Touch.refl _ _, _, by rw [List.length_append, HRL.out.1]; exact HRL.out.2.1, own_up HFK.out.2.2.1 HU9.out⟩
                      case round =>
                        obtain ⟨m, rfl, rfl, HM⟩ := hrel
                        have m0 : (0 : Int) ≤ (m : Int) := by omega
                        by_cases hm : m < R9
                        · obtain ⟨bs, hbl, hob⟩ := HM.out.2.2
                          have hmb : m < bs.length := by omega
                          have m1 : (m : Int) < (R9 : Int) := by omega
                          have m2 : (R9 : Int) ≤ 4194313 := by omega
                          have kc := own_byte hob m hmb
                          have kf : wr.frozen? ⟨gb, m, none⟩ = false := Own.not_frozen (t := m) hob
                          have H5 : Hid (m < R9 ∧ Touch w9 (wr.setCell ⟨gb, m, none⟩ (.int .u8 119)) [gb] ∧ ∃ bs : List UInt8, bs.length = R9 ∧ Own (wr.setCell ⟨gb, m, none⟩ (.int .u8 119)) 5 w4.heap.size (.slice (some ⟨gb, 0, none⟩) R9 cb) bs) :=
                            ⟨hm, HM.out.2.1.setCell (.inl (by simp)) _ _, _, by rw [List.length_set]; exact hbl, hob.set m hmb 119⟩
                          generalize bs[m] = c0 at kc
                          clear hm hbl hob hmb
                          go_wp2_with fail
                          go_roundg (R9 - (m + 1))
                          case measure => have := H5.out.1; omega
                          case rel => exact ⟨m + 1, rfl, by go_num, H5.out.1, H5.out.2.1, H5.out.2.2⟩
                        · have m1 : ¬ (m : Int) < (R9 : Int) := by omega
                          have hm9 : R9 = m := by have := HM.out.1; omega
                          have H6 : Hid (Touch w7 wr (fs.map Prod.fst) ∧ GivR wr w4.heap.size (.slice (some ⟨gv, 0, none⟩) N cgv) Rs (k + 1) fs) := by
                            obtain ⟨hkf, hfe⟩ := HFK.out.2.1
                            have hmem : gb ∈ fs.map Prod.fst := List.mem_map.2 ⟨_, List.getElem_mem hkf, by rw [hfe]⟩
                            have t1 : Touch wB wr [gb] := (Touch.of_up HU9.out [gb]).trans HM.out.2.1 (fun q hq => .inl hq)
                            refine ⟨HL.out.2.1.trans t1 (fun q hq => .inl (by simp at hq; rw [hq]; exact hmem)), HL.out.2.2.fill hkf ?_⟩
                            rw [hfe]
                            exact t1
                          clear hm hm9
                          go_wp2_with fail
                          go_roundg (N - (k + 1))
                          case measure => have := HFK.out.1; omega
                          case rel => exact ⟨k + 1, rfl, by go_num, by have := HFK.out.1; omega, H6.out.1, H6.out.2⟩
                · have hk1 : ¬ (k : Int) < (N : Int) := by omega
                  have UX : Up w1 wr := Touch.up_of HF7.out.2.2.2.2.2.2.2.2.2.1 HL.out.2.1 (fun q hq => Nat.le_trans HU7.out.2.2 (HSF.out q hq).1)
                  have DX := HF7.out.2.2.2.2.2.2.2.2.1.kept HL.out.2.1 (fun q hq hm => (HSF.out q hm).2 hq)
                  obtain ⟨M, hM⟩ : ∃ M, GS.flatten.length = M := ⟨_, rfl⟩
                  have HM0 : Hid (GS.flatten.length = M ∧ M ≤ 524288 ∧ (∀ r ∈ GS.flatten, r.length ≤ 4194304)) := by
                    refine ⟨hM, ?_, ?_⟩
                    · have h8 := HN8.out
                      have hn := HN.out
                      rcases HTK.out with ⟨_, h⟩ | ⟨_, h⟩
                      · rw [h] at hM; omega
                      · rw [h] at hM; simp at hM; omega
                    · rcases HTK.out with ⟨_, h⟩ | ⟨_, h⟩
                      · rw [h]; exact HR.out
                      · rw [h]; intro r hr; cases hr
                  have hfit := HF7.out.2.2.2.1
                  have hlen := pkB_length x GS hfit
                  have hmany : GS.length ≤ M := by have h := hfit.many; rw [← hM]; exact h
                  have hdl : F.seen.data.length ≤ 268435456 := by rw [HF7.out.2.1, hlen]; have := HM0.out.2.1; omega
                  have hop : ∀ W : World, Up w1 W → DiskAt W w1.heap.size db (sgD (nameB x) F O 0 (fun _ => none) 0 P) L7 → Calls Tryz.prog 22 #[.pointer (some ⟨db, 0, none⟩), .int .u64 (x : Int)] W fun e w' => ∃ sb v' vs B, e = .returned (.tuple #[.pointer (some ⟨sb, 0, none⟩), v', .nilIface]) ∧ Recs w' B v' GS.flatten vs ∧ Up W w' ∧ W.heap.size ≤ B := fun W uu dd =>
                    (SegOpen_any w1 W db x F O 0 (fun _ => none) 0 P L7 ad HK.out.1 uu dd HX.out.1 (by have := HX.out.2; omega) HF7.out.1 HF7.out.2.2.1 (by omega) (GS.flatten, GS.length) (by rw [HF7.out.2.1]; exact hfit.scan) (by show GS.flatten.length ≤ _; have := HM0.out.2.1; omega) (by show GS.length ≤ _; have := HM0.out.2.1; omega)).mono (by
                      rintro e w' ⟨sb, v', vs, B, h1, _, h3, h4, _, h6⟩
                      exact ⟨sb, v', vs, B, h1, h3, h4, h6⟩)
                  have HOP : Hid _ := hop
                  have hop1 := hop wr UX DX
                  have HDX : Hid (Up w1 wr ∧ DiskAt wr w1.heap.size db (sgD (nameB x) F O 0 (fun _ => none) 0 P) L7 ∧ Up w wr) := ⟨UX, DX, HK.out.2.trans UX⟩
                  clear hk UX DX hM hfit hlen hmany hdl hop
                  obtain ⟨wC, hwC⟩ : ∃ wC, wC = wr := ⟨_, rfl⟩
                  subst hwC
                  go_wp2_with fail
                  refine hop1.mono ?_
                  rintro e wa ⟨sb1, v18, vs18, B18, rfl, r18, u18, n18⟩
                  clear hop1
                  obtain ⟨a18, c18, rfl⟩ := r18.slice
                  rw [HM0.out.1] at r18 ⊢
                  have H18 : Hid (Recs wa B18 (.slice a18 M c18) GS.flatten vs18 ∧ Up wC wa ∧ wC.heap.size ≤ B18) := ⟨r18, u18, n18⟩
                  have hop2 := HOP.out wa (HDX.out.1.trans u18) (HDX.out.2.1.up u18)
                  clear r18 u18 n18 HOP
                  go_wp2_with fail
                  refine hop2.mono ?_
                  rintro e wb ⟨sb2, v20, vs20, B20, rfl, r20, u20, n20⟩
                  clear hop2
                  obtain ⟨a20, c20, rfl⟩ := r20.slice
                  rw [HM0.out.1] at r20 ⊢
                  have H20 : Hid (Recs wb B20 (.slice a20 M c20) GS.flatten vs20 ∧ Up wa wb ∧ wa.heap.size ≤ B20) := ⟨r20, u20, n20⟩
                  clear r20 u20 n20
                  have hM0 : ((M : Int) != 0) = false := by
                    have h : M = 0 := by
                      rcases HTK.out with ⟨h, _⟩ | ⟨_, h⟩
                      · cases h
                      · rw [← HM0.out.1, h]; rfl
                    rw [h]; rfl
                  go_wp2_with fail
                  obtain ⟨wc, hwc⟩ : ∃ wc, wb = wc := ⟨_, rfl⟩
                  have ub : Up wb wc := by rw [← hwc]; exact Up.refl _
                  rw [hwc]
                  clear hM0 hwc
                  have HC : Hid (Up wb wc ∧ Up w wc) := ⟨ub, ((HDX.out.2.2.trans H18.out.2.1).trans H20.out.2.1).trans ub⟩
                  clear ub
                  have M0 : (0 : Int) ≤ (M : Int) := by omega
                  have M1 : (M : Int) ≤ 524288 := by have := HM0.out.2.1; omega
                  go_wp2_with fail
                  go_loopg [22] M (fun g p wr => ∃ i : Nat, g = M - i ∧ p = .int .i64 (i : Int) ∧ Hid (i ≤ M ∧ ∃ L vs, MkR w wc wr B18 wa.heap.size (.slice a18 M c18) M i 0 L vs))
                  case atStart =>
                    refine ⟨0, rfl, rfl, Nat.zero_le _, GS.flatten, vs18, ?_⟩
                    have h := MkR.start H18.out.1 (H20.out.2.1.trans HC.out.1) (Nat.le_trans HDX.out.2.2.size H18.out.2.2) HC.out.2 HM0.out.2.2
                    rw [HM0.out.1] at h
                    exact h
                  case round =>
                    obtain ⟨i, rfl, rfl, HI⟩ := hrel
                    have i0 : (0 : Int) ≤ (i : Int) := by omega
                    by_cases hi : i < M
                    · have i1 : (i : Int) < (M : Int) := by omega
                      obtain ⟨L, vs, hmk⟩ := HI.out.2
                      obtain ⟨hL, hv, g, cp, al, cl, ev, evs, hc, hom⟩ := hmk.cell i hi
                      obtain ⟨rfl, rfl⟩ : a18 = some ⟨g, 0, none⟩ ∧ c18 = cp := by simp only [Value.slice.injEq] at ev; exact ⟨ev.1, ev.2.2⟩
                      obtain ⟨R, hR⟩ : ∃ R, (L[i]'hL).length = R := ⟨_, rfl⟩
                      have R0 : (0 : Int) ≤ (R : Int) := by omega
                      have R1 : (R : Int) ≤ 4194307 := by have := hmk.sm.le hL; omega
                      rw [hR] at evs hc hom
                      have H0 : Hid (i < M ∧ R ≤ 4194307 ∧ MkR w wc wr B18 wa.heap.size (.slice (some ⟨g, 0, none⟩) M c18) M i 0 L vs ∧ ∃ (hL : i < L.length) (hv : i < vs.length), vs[i]'hv = .slice al R cl ∧ (L[i]'hL).length = R) := ⟨hi, by omega, hmk, hL, hv, evs, hR⟩
                      obtain ⟨C, hC⟩ : ∃ C : Nat, (UInt8.ofNat i).toNat = C := ⟨_, rfl⟩
                      have HC2 : Hid ((UInt8.ofNat i).toNat = C) := hC
                      have cw : IntKind.u8.wrap (i : Int) = (C : Int) := by rw [← hC]; exact wrap_u8 i
                      clear hi ev evs hc hom hR hmk hC hL hv
                      go_wp2_with fail
                      go_loopg [23] R (fun g' p wr => ∃ t : Nat, g' = R - t ∧ p = .int .i64 (t : Int) ∧ Hid (t ≤ R ∧ ∃ L vs, MkR w wc wr B18 wa.heap.size (.slice (some ⟨g, 0, none⟩) M c18) M i t L vs ∧ ∃ (hL : i < L.length) (hv : i < vs.length), vs[i]'hv = .slice al R cl ∧ (L[i]'hL).length = R))
                      case atStart => exact ⟨0, rfl, rfl, Nat.zero_le _, L, vs, H0.out.2.2.1, H0.out.2.2.2⟩
                      case round =>
                        obtain ⟨t, rfl, rfl, HT⟩ := hrel
                        have t0 : (0 : Int) ≤ (t : Int) := by omega
                        obtain ⟨L2, vs2, hmk, hL, hv, evs, hR⟩ := HT.out.2
                        have kc : wr.cell? ⟨g, i, none⟩ = some (.slice al R cl) := by rw [← evs]; exact (hmk.rowcell hL hv (Up.refl _) (World.grownBy.refl _ _)).1
                        by_cases ht : t < R
                        · have t1 : (t : Int) < (R : Int) := by omega
                          have hom := hmk.recs.each i hv hL
                          rw [evs] at hom
                          obtain ⟨gl, rfl, -, kb, kf⟩ := hom.byte t (by omega)
                          generalize (L2[i]'hL)[t]'(by omega) = c0 at kb
                          have hst := hmk.store hL hv evs (by omega)
                          have hB : B (UInt8.ofNat i) = .int .u8 (C : Int) := by show Value.int .u8 (((UInt8.ofNat i).toNat : Nat) : Int) = _; rw [HC2.out]
                          rw [hB] at hst
                          have HST : Hid (t < R ∧ ∃ L vs, MkR w wc (wr.setCell ⟨gl, t, none⟩ (.int .u8 (C : Int))) B18 wa.heap.size (.slice (some ⟨g, 0, none⟩) M c18) M i (t + 1) L vs ∧ ∃ (hL : i < L.length) (hv : i < vs.length), vs[i]'hv = .slice (some ⟨gl, 0, none⟩) R cl ∧ (L[i]'hL).length = R) :=
                            ⟨ht, _, _, hst, by rw [List.length_set]; exact hL, hv, evs, by rw [List.getElem_set_self, List.length_set]; exact hR⟩
                          clear ht hom hst hB hmk hL hv evs hR
                          go_wp2_with fail
                          go_roundg (R - (t + 1))
                          case measure => have := HST.out.1; omega
                          case rel => exact ⟨t + 1, rfl, by go_num, HST.out.1, HST.out.2⟩
                        · have t1 : ¬ (t : Int) < (R : Int) := by omega
                          have hom := hmk.recs.each i hv hL
                          have HMK : Hid (t = R ∧ MkR w wc wr B18 wa.heap.size (.slice (some ⟨g, 0, none⟩) M c18) M i t L2 vs2 ∧ OwnM wr B18 (vs2[i]'hv) (L2[i]'hL) ∧ vs2[i]'hv = .slice al R cl ∧ (L2[i]'hL).length = R) := ⟨by have := HT.out.1; omega, hmk, hom, evs, hR⟩
                          have hom2 : OwnM wr B18 (.slice al R cl) (L2[i]'hL) := by rw [← evs]; exact hom
                          have hszB : B18 ≤ wr.heap.size := by have h1 := H18.out.1.row; have h2 := hmk.size; have h3 := (World.ownsRow.lt h1 g rfl); have h4 := (H20.out.2.1.trans HC.out.1).size; omega
                          clear hmk hom evs ht
                          go_wp2_with (at_builtin; refine wpList_bytesM _ rfl (.tmp 213) (.tmp 220) rfl B18 (.slice al R cl) (L2[i]'hL) [UInt8.ofNat i, UInt8.ofNat i, UInt8.ofNat i] rfl ⟨wr.heap.size, 0, none⟩ 3 rfl ?pf1 ?pf2 ?pf3 ?pf4 ?pf5 ?_)
                          case pf1 => exact hom2.up (Up.alloc _ _)
                          case pf2 =>
                            rw [← HC2.out]
                            exact fun j u h => h
                          case pf3 => have := (Up.alloc wr (.cells #[.int .u8 (C : Int), .int .u8 (C : Int), .int .u8 (C : Int)] 5)).size; omega
                          case pf4 => have := H0.out.2.1; omega
                          intro v6 w6 ho6 hg6 hm6
                          obtain ⟨a6, c6, rfl⟩ := ho6.shape
                          obtain ⟨R3, hR3⟩ : ∃ R3, (L2[i]'hL ++ [UInt8.ofNat i, UInt8.ofNat i, UInt8.ofNat i]).length = R3 := ⟨_, rfl⟩
                          rw [hR3] at ho6 hm6 ⊢
                          clear hR3
                          have hg6b := hg6
                          have hm6b := hm6
                          rw [← HMK.out.2.2.2.1] at hg6b hm6b
                          have H8 : Hid (∃ L vs, MkR w wc (w6.setCell ⟨g, i, none⟩ (.slice a6 R3 c6)) B18 wa.heap.size (.slice (some ⟨g, 0, none⟩) M c18) M (i + 1) 0 L vs) := ⟨_, _, HMK.out.2.1.grow hL hv (by rw [HMK.out.2.2.2.2]; exact HMK.out.1) (Up.alloc _ _) ho6 hg6b (fun q hq => (hm6b q hq).imp id (fun h => by simpa using h))⟩
                          obtain ⟨k6, f6⟩ := HMK.out.2.1.rowcell hL hv (Up.alloc _ _) hg6b
                          rw [HMK.out.2.2.2.1] at k6
                          clear ho6 hg6 hm6 hg6b hm6b hom2 hR kc
                          go_wp2_with fail
                          go_roundg (M - (i + 1))
                          case measure => have := H0.out.1; omega
                          case rel => exact ⟨i + 1, rfl, by go_num, H0.out.1, H8.out⟩
                    · have i1 : ¬ (i : Int) < (M : Int) := by omega
                      have hiM : M = i := by have := HI.out.1; omega
                      obtain ⟨L, vs, hmk⟩ := HI.out.2
                      have HMK : Hid (MkR w wc wr B18 wa.heap.size (.slice a18 M c18) M M 0 L vs) := by rw [← hiM] at hmk; exact hmk
                      clear hi hiM hmk HI
                      obtain ⟨wD, hwD⟩ : ∃ wD, wD = wr := ⟨_, rfl⟩
                      subst hwD
                      go_wp2_with fail
                      clear i1 i0
                      go_loopg [24] M (fun g p wr => ∃ i : Nat, g = M - i ∧ p = .int .i64 (i : Int) ∧ Hid (i ≤ M) ∧ wD = wr)
                      case atStart => exact ⟨0, rfl, rfl, Nat.zero_le _, rfl⟩
                      case round =>
                        obtain ⟨n, rfl, rfl, HI, rfl⟩ := hrel
                        have n0 : (0 : Int) ≤ (n : Int) := by omega
                        by_cases hn : n < M
                        · have n1 : (n : Int) < (M : Int) := by omega
                          obtain ⟨hL, hv, g, cp, al, cl, ev, evs, hc, hom⟩ := HMK.out.cell n hn
                          obtain ⟨rfl, rfl⟩ : a18 = some ⟨g, 0, none⟩ ∧ c18 = cp := by simp only [Value.slice.injEq] at ev; exact ⟨ev.1, ev.2.2⟩
                          obtain ⟨R, hR⟩ : ∃ R, (L[n]'hL).length = R := ⟨_, rfl⟩
                          have R0 : (0 : Int) ≤ (R : Int) := by omega
                          have R1 : (R : Int) ≤ 4194307 := by have := HMK.out.sm.le hL; omega
                          rw [hR] at hc hom
                          have H0 : Hid (n < M ∧ R ≤ 4194307 ∧ OwnM wD B18 (.slice al R cl) (L[n]'hL) ∧ (L[n]'hL).length = R) := ⟨hn, by omega, hom, hR⟩
                          obtain ⟨C, hC⟩ : ∃ C : Nat, (UInt8.ofNat n).toNat = C := ⟨_, rfl⟩
                          have HC2 : Hid ((UInt8.ofNat n).toNat = C) := hC
                          have cw : IntKind.u8.wrap (n : Int) = (C : Int) := by rw [← hC]; exact wrap_u8 n
                          clear hn ev evs hom hR hC hv
                          go_wp2_with fail
                          go_loopg [25] R (fun g' p wr => ∃ t : Nat, g' = R - t ∧ p = .int .i64 (t : Int) ∧ Hid (t ≤ R) ∧ wD = wr)
                          case atStart => exact ⟨0, rfl, rfl, Nat.zero_le _, rfl⟩
                          case round =>
                            obtain ⟨t, rfl, rfl, HT, rfl⟩ := hrel
                            have t0 : (0 : Int) ≤ (t : Int) := by omega
                            by_cases ht : t < R
                            · have t1 : (t : Int) < (R : Int) := by omega
                              have htl : t < (L[n]'hL).length := by rw [H0.out.2.2.2]; exact ht
                              obtain ⟨gl, rfl, -, kb, -⟩ := H0.out.2.2.1.byte t htl
                              have hd := HMK.out.done n _ (List.getElem?_eq_getElem hL) t _ (List.getElem?_eq_getElem htl) (.inl H0.out.1)
                              rw [hd] at kb
                              have kb2 : wD.cell? ⟨gl, t, none⟩ = some (.int .u8 (C : Int)) := by rw [kb]; show some (Value.int .u8 (((UInt8.ofNat n).toNat : Nat) : Int)) = _; rw [HC2.out]
                              have HT2 : Hid (t < R) := ht
                              clear kb hd htl ht
                              go_wp2_with fail
                              go_roundg (R - (t + 1))
                              case measure => have := HT2.out; omega
                              case rel => exact ⟨t + 1, rfl, by go_num, HT2.out, rfl⟩
                            · have t1 : ¬ (t : Int) < (R : Int) := by omega
                              clear ht
                              go_wp2_with fail
                              go_roundg (M - (n + 1))
                              case measure => have := H0.out.1; omega
                              case rel => exact ⟨n + 1, rfl, by go_num, H0.out.1, rfl⟩
                        · have n1 : ¬ (n : Int) < (M : Int) := by omega
                          clear hn
                          have UE := HMK.out.up
                          go_wp2
                          go_ret
                          exact ⟨rfl, UE⟩
end Go.Proofs.YtkfjkfpodkbkaaaGreatDoor

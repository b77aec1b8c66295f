/- state: the law on pieces (laid by genPieces.py). Own work. -/
import Derived.Test.YtffldmeocmemeaaDoorStPcs0
import Derived.Deep.DeepCutAuto
set_option linter.unusedVariables false
set_option linter.unusedSimpArgs false
namespace Go.Proofs.YtffldmeocmemeaaDoor
open Go Go.RowKit

def rec99 : RecV := ⟨99, 0, [], 0, 0, 0, 0, 0, 0, 0, 0⟩
theorem one_rec (w : World) : SlR (w.alloc (.cells #[.int .i64 99, Z, .string ⟨#[]⟩, .int .i64 0, Z, Z, Z, Z, Z, Z, Z] 39)) (.slice (some ⟨w.heap.size, 0, none⟩) 1 1) [rec99] := by
  refine ⟨some ⟨w.heap.size, 0, none⟩, 1, rfl, Nat.le_refl _, (by intro e; cases e), fun _ => ⟨_, _, rfl, fun i hi => ?_⟩⟩
  have hc := fun j => cell_of_row _ _ j _ _ (0, 0) (heap_alloc_new w (.cells #[.int .i64 99, Z, .string ⟨#[]⟩, .int .i64 0, Z, Z, Z, Z, Z, Z, Z] 39))
  match i, hi with
  | 0, _ => exact ⟨hc 0, hc 1, hc 2, hc 3, hc 4, hc 5, hc 6, hc 7, hc 8, hc 9, hc 10⟩

set_option maxRecDepth 20000 in
set_option maxHeartbeats 6400000 in
theorem StatePieces_any (v v1 v2 : Value) (l f : Nat) (xs : List Ent) (one two : List RecV) (w : World) (ad : Nat → Addr) (hk : ErrSet stErrs errTxt w ad) (h : SlE w v xs) (hr1 : SlR w v1 one) (hr2 : SlR w v2 two) (hxl : xs.length ≤ 140737488355328) (hl1 : one.length ≤ 140737488355328) (hl2 : two.length ≤ 140737488355328)
    (hc1 : ∀ a m c, v1 = .slice a m c → c ≤ maxLen) (hc2 : ∀ a m c, v2 = .slice a m c → c ≤ maxLen) :
    Calls Tryd.prog 6 #[.agg #[V l, V f, v], v1, v2] w fun e w' => e = .returned (.bool true) ∧ Up w w' := by
  have HL : Hid (∀ u, Up w u → Calls Tryd.prog 10 #[] u fun e w' => e = .returned (.bool true) ∧ Up u w') := fun u uu => lives_any u ad (hk.up uu)
  have HRP : Hid (∀ (s : StV) (vs : Value) (n : Nat) (vr : Value) (rs : List RecV) (u : World), Up w u → SlE u vs s.keys → s.keys.length ≤ 4611686018427387903 → n < 18446744073709551616 → SlR u vr rs → rs.length ≤ 140737488355328 → (∀ a m c, vr = .slice a m c → c ≤ maxLen) →
      Calls Tryd.prog 22 #[.agg #[V s.lsn, V s.floor, vs], V n, vr] u (RunPost ad u (replayS s n rs))) := fun s vs n vr rs u uu h1 h2 h3 h4 h5 h6 => Replay_any vs s.lsn s.floor n s.keys vr rs ad u h1 h4 h2 h3 h5 h6 (hk.up uu)
  have HEQ : Hid (∀ (t : StV) (va vb : Value) (u : World), SlE u va t.keys → SlE u vb t.keys → t.keys.length ≤ 140737488355328 → Calls Tryd.prog 24 #[.agg #[V t.lsn, V t.floor, va], .agg #[V t.lsn, V t.floor, vb]] u fun e w' => e = .returned (.bool true) ∧ Up u w') := fun t va vb u h1 h2 h3 => equal_same va vb t.lsn t.floor t.keys u h1 h2 h3
  have HEZ : Hid (∀ u, Calls Tryd.prog 24 #[.agg #[Z, Z, .slice none 0 0], .agg #[Z, Z, .slice none 0 0]] u fun e w' => e = .returned (.bool true) ∧ Up u w') := fun u => equal_same (.slice none 0 0) (.slice none 0 0) 0 0 [] u (SlE.nil u) (SlE.nil u) (by simp)
  have HAG : Hid (∀ (b : Addr) u, Calls Tryd.prog 23 #[E b, E b] u fun e w' => e = .returned (.bool true) ∧ Up u w') := fun b u => agree_same b u
  have HAN : Hid (∀ u, Calls Tryd.prog 23 #[.nilIface, .nilIface] u fun e w' => e = .returned (.bool true) ∧ Up u w') := fun u => agree_none u
  obtain ⟨a0, c0, rfl⟩ := h.shape
  obtain ⟨N, hN⟩ : ∃ N, xs.length = N := ⟨_, rfl⟩
  obtain ⟨a1, c1, rfl⟩ := hr1.shape
  obtain ⟨a2, c2, rfl⟩ := hr2.shape
  obtain ⟨N1, hN1⟩ : ∃ N, one.length = N := ⟨_, rfl⟩
  obtain ⟨N2, hN2⟩ : ∃ N, two.length = N := ⟨_, rfl⟩
  rw [hN] at h hxl ⊢
  rw [hN1] at hr1 hl1 hc1 ⊢
  rw [hN2] at hr2 hl2 hc2 ⊢
  have HN : Hid (xs.length = N ∧ one.length = N1 ∧ two.length = N2 ∧ N ≤ 140737488355328 ∧ (∀ a m c, Value.slice a1 N1 c1 = .slice a m c → c ≤ maxLen) ∧ (∀ a m c, Value.slice a2 N2 c2 = .slice a m c → c ≤ maxLen)) := ⟨hN, hN1, hN2, hxl, hc1, hc2⟩
  have g1 : (N1 : Int) ≤ 140737488355328 := by omega
  have g2 : (N2 : Int) ≤ 140737488355328 := by omega
  have b0 : Box (w.alloc (.cells #[V l, V f, .slice a0 N c0] 27)) w.heap.size #[V l, V f, .slice a0 N c0] := Box.new _ _ _
  have u0 : Up w (w.alloc (.cells #[V l, V f, .slice a0 N c0] 27)) := Up.alloc _ _
  have HS : Hid (∀ u, Calls Tryd.prog 20 #[.agg #[V l, V f, .slice a0 N c0]] u fun e w' => e = .returned (.bool (decide (N ≤ 16384))) ∧ Up u w') := fun u => small_any l f a0 N c0 u
  clear hk hN hN1 hN2 hc1 hc2 hl1 hl2 hxl
  go_enter Tryd.func6, Tryd.ntmps6
  go_upto_region 1 with fail
  generalize w.alloc (.cells #[V l, V f, .slice a0 N c0] 27) = w0 at *
  generalize w.heap.size = B at *
  go_wp2_with fail
  refine (HL.out _ u0).mono ?_
  rintro e w1 ⟨rfl, u1⟩
  have U := u0.trans u1
  replace b0 := b0.up u1
  clear u0 u1 HL
  obtain ⟨s0, s1, s2⟩ := b0.c3
  by_cases hbig : (16384 : Int) < (N1 : Int) + (N2 : Int)
  · clear HRP HEQ HEZ HAG HAN HS
    go_wp2_with fail
    go_ret
    exact ⟨rfl, U⟩
  go_upto_region 3 with fail
  go_wp2_with fail
  refine (HS.out _).mono ?_
  rintro e w2 ⟨rfl, u2⟩
  replace U := U.trans u2
  replace b0 := b0.up u2
  clear u2 HS s0 s1 s2
  obtain ⟨s0, s1, s2⟩ := b0.c3
  obtain ⟨q, hq⟩ : ∃ q, decide (N ≤ 16384) = q := ⟨_, rfl⟩
  rw [hq]
  cases q with
  | false =>
    clear HRP HEQ HEZ HAG HAN hq
    go_wp2_with fail
    go_ret
    exact ⟨rfl, U⟩
  | true =>
  clear hq
  obtain ⟨F, hF⟩ : ∃ F, fst64 l = F := ⟨_, rfl⟩
  have HF : Hid (fst64 l = F ∧ F < 18446744073709551616) := ⟨hF, by rw [← hF]; unfold fst64; omega⟩
  have e1 : IntKind.u64.wrap ((l : Int) + 1) = (F : Int) := by rw [← hF, IntKind.wrap_u64]; unfold fst64; omega
  clear hF
  have g0 : (N1 : Int) + (N2 : Int) ≤ 16384 := by omega
  have G1 : Hid ((N1 : Int) + (N2 : Int) ≤ 16384) := g0
  clear g0
  go_upto_region 6 with fail
  replace h := h.up U
  replace hr1 := hr1.up U
  replace hr2 := hr2.up U
  go_wp2_with (at_builtin; refine wpList_appR _ rfl _ _ rfl w2.heap.size (.slice none 0 0) (.slice a1 N1 c1) [] one rfl rfl (OwnR.nil _ _) hr1 (Nat.le_refl _) ?hlen ?_)
  case hlen => have := HN.out; have := G1.out; simp; omega
  intro v3 w3 o3 g3
  have u3 : Up w2 w3 := OwnR.grown (OwnR.nil _ _) (Up.refl _) g3
  obtain ⟨a3, M3, c3, rfl⟩ : ∃ a m c, v3 = .slice a m c := by obtain ⟨a, c, e⟩ := o3.sl.1.shape; exact ⟨_, _, _, e⟩
  have hsz3 : w2.heap.size ≤ w3.heap.size := u3.size
  clear g3
  go_wp2_with (at_builtin; refine wpList_appR _ rfl _ _ rfl w2.heap.size (.slice a3 M3 c3) (.slice a2 N2 c2) one two rfl rfl o3 (hr2.up u3) hsz3 ?hlen ?_)
  case hlen => have := HN.out; have := G1.out; omega
  intro v4 w4 o4 g4
  have u4 : Up w2 w4 := OwnR.grown o3 u3 g4
  obtain ⟨a4, M4, c4, rfl⟩ : ∃ a m c, v4 = .slice a m c := by obtain ⟨a, c, e⟩ := o4.sl.1.shape; exact ⟨_, _, _, e⟩
  obtain ⟨hb4, hc4⟩ := o4.sl
  have HC4 : Hid (∀ a m c, Value.slice a4 M4 c4 = .slice a m c → c ≤ maxLen) := hc4
  clear o3 u3 hsz3 g4 o4 hc4 s0 s1 s2 e1
  replace U := U.trans u4
  replace b0 := b0.up u4
  replace h := h.up u4
  replace hr1 := hr1.up u4
  replace hr2 := hr2.up u4
  clear u4
  obtain ⟨s0, s1, s2⟩ := b0.c3
  have kA := HRP.out ⟨l, f, xs⟩ (.slice a0 N c0) F (.slice a4 M4 c4) (one ++ two) w4 U h (by have := HN.out; show xs.length ≤ _; omega) HF.out.2 hb4 (by have := HN.out; have := G1.out; simp; omega) HC4.out
  have kM := fun (u : World) (uu : Up w u) (h1 : SlE u (.slice a0 N c0) xs) (h2 : SlR u (.slice a1 N1 c1) one) => HRP.out ⟨l, f, xs⟩ (.slice a0 N c0) F (.slice a1 N1 c1) one u uu h1 (by have := HN.out; show xs.length ≤ _; omega) HF.out.2 h2 (by have := HN.out; have := G1.out; omega) HN.out.2.2.2.2.1
  have HRM : Hid (∀ (r : Except Flw StV), replayS ⟨l, f, xs⟩ F one = r → ∀ (u : World) (uu : Up w u) (h1 : SlE u (.slice a0 N c0) xs) (h2 : SlR u (.slice a1 N1 c1) one), Calls Tryd.prog 22 #[.agg #[V l, V f, .slice a0 N c0], V F, .slice a1 N1 c1] u (RunPost ad u r)) := fun r hr => by rw [← hr]; exact kM
  have HRA : Hid (∀ (r : Except Flw StV), replayS ⟨l, f, xs⟩ F (one ++ two) = r → Calls Tryd.prog 22 #[.agg #[V l, V f, .slice a0 N c0], V F, .slice a4 M4 c4] w4 (RunPost ad w4 r)) := fun r hr => by rw [← hr]; exact kA
  clear kA kM
  cases hR1 : replayS ⟨l, f, xs⟩ F one with
  | error x =>
    have hRA : replayS ⟨l, f, xs⟩ F (one ++ two) = .error x := by rw [← HF.out.1] at hR1 ⊢; exact rep_err (s := ⟨l, f, xs⟩) hR1 two
    have KA := HRA.out _ hRA
    have KM := HRM.out _ hR1
    clear HRA HRM hRA hR1 HRP HEQ HEZ HAN
    have HKM : Hid (∀ u, Up w u → SlE u (.slice a0 N c0) xs → SlR u (.slice a1 N1 c1) one → Calls Tryd.prog 22 #[.agg #[V l, V f, .slice a0 N c0], V F, .slice a1 N1 c1] u (RunPost ad u (.error x))) := KM
    clear KM
    go_wp2_with fail
    refine KA.mono ?_
    rintro e w5 ⟨rfl, u5⟩
    have ua : Up w5 (w5.alloc (.cells #[Z, Z, .slice none 0 0] 27)) := Up.alloc _ _
    clear KA s0 s1 s2
    go_upto_region 10 with fail
    generalize w5.alloc (.cells #[Z, Z, .slice none 0 0] 27) = w6 at *
    replace u5 := u5.trans ua
    replace U := U.trans u5
    replace b0 := b0.up u5
    obtain ⟨s0, s1, s2⟩ := b0.c3
    have KM := HKM.out w6 U (h.up u5) (hr1.up u5)
    clear HKM ua u5 h hr1 hr2 hb4
    go_wp2_with fail
    refine KM.mono ?_
    rintro e w7 ⟨rfl, u7⟩
    replace U := U.trans u7
    clear KM s0 s1 s2 b0 u7
    have U8 := U.trans (Up.alloc w7 (.cells #[Z, Z, .slice none 0 0] 27))
    go_upto_region 11 with fail
    generalize w7.alloc (.cells #[Z, Z, .slice none 0 0] 27) = w8 at *
    clear U
    go_wp2_with fail
    refine (HAG.out _ _).mono ?_
    rintro e w9 ⟨rfl, u9⟩
    go_wp2_with fail
    go_ret
    exact ⟨rfl, U8.trans u9⟩
  | ok m =>
    have hsp := by have h0 := hR1; rw [← HF.out.1] at h0; exact rep_ok (s := ⟨l, f, xs⟩) h0 two
    obtain ⟨hs, hm, hf1, hlm, hspl⟩ := hsp
    simp only at hf1 hlm hspl hs
    rw [HF.out.1] at hspl hf1
    obtain ⟨n2, hn2⟩ : ∃ n, l + 1 + one.length = n := ⟨_, rfl⟩
    rw [hn2] at hspl
    have hll : l ≤ 4611686018427387904 := hs.lsn
    have HG : Hid (n2 = F + N1 ∧ n2 < 18446744073709551616 ∧ m.keys.length ≤ 4096) := by have := HN.out; have := G1.out; exact ⟨by omega, by omega, hm.len⟩
    have e2 : IntKind.u64.wrap (N1 : Int) = (N1 : Int) := by rw [IntKind.wrap_u64]; omega
    have e3 : IntKind.u64.wrap ((F : Int) + (N1 : Int)) = (n2 : Int) := by have := HG.out; rw [IntKind.wrap_u64]; omega
    have KM := HRM.out _ hR1
    have HKM : Hid (∀ u, Up w u → SlE u (.slice a0 N c0) xs → SlR u (.slice a1 N1 c1) one → Calls Tryd.prog 22 #[.agg #[V l, V f, .slice a0 N c0], V F, .slice a1 N1 c1] u (RunPost ad u (.ok m))) := KM
    have HR1 : Hid (replayS ⟨l, f, xs⟩ F one = .ok m ∧ l + 1 + one.length = n2) := ⟨hR1, hn2⟩
    clear KM HRM hR1 hn2 hf1 hlm hs hm
    cases hR2 : replayS m n2 two with
    | error x =>
      have KA := HRA.out _ (hspl.trans hR2)
      have KE := fun vm (u : World) (uu : Up w u) (h1 : SlE u vm m.keys) (h2 : SlR u (.slice a2 N2 c2) two) => HRP.out m vm n2 (.slice a2 N2 c2) two u uu h1 (by have := HG.out; omega) HG.out.2.1 h2 (by have := HN.out; have := G1.out; omega) HN.out.2.2.2.2.2
      rw [hR2] at KE
      have HKE : Hid (∀ vm u, Up w u → SlE u vm m.keys → SlR u (.slice a2 N2 c2) two → Calls Tryd.prog 22 #[.agg #[V m.lsn, V m.floor, vm], V n2, .slice a2 N2 c2] u (RunPost ad u (.error x))) := KE
      clear HRA hspl hR2 KE HRP HEQ HAN hll
      go_wp2_with fail
      refine KA.mono ?_
      rintro e w5 ⟨rfl, u5⟩
      have ua : Up w5 (w5.alloc (.cells #[Z, Z, .slice none 0 0] 27)) := Up.alloc _ _
      have bA : Box (w5.alloc (.cells #[Z, Z, .slice none 0 0] 27)) w5.heap.size #[Z, Z, .slice none 0 0] := Box.new _ _ _
      clear KA s0 s1 s2
      go_upto_region 10 with fail
      generalize w5.alloc (.cells #[Z, Z, .slice none 0 0] 27) = w6 at *
      generalize w5.heap.size = BA at *
      replace u5 := u5.trans ua
      replace U := U.trans u5
      replace b0 := b0.up u5
      obtain ⟨s0, s1, s2⟩ := b0.c3
      have KM := HKM.out w6 U (h.up u5) (hr1.up u5)
      replace hr2 := hr2.up u5
      clear HKM ua u5 h hr1 hb4
      go_wp2_with fail
      refine KM.mono ?_
      rintro e w7 ⟨vm, rfl, om, u7⟩
      obtain ⟨am, Mm, cm, rfl⟩ : ∃ a m c, vm = .slice a m c := by obtain ⟨a, c, e⟩ := om.shape; exact ⟨_, _, _, e⟩
      have sm := om.sl
      replace U := U.trans u7
      replace bA := bA.up u7
      replace hr2 := hr2.up u7
      have ua : Up w7 (w7.alloc (.cells #[V m.lsn, V m.floor, .slice am Mm cm] 27)) := Up.alloc _ _
      have bM : Box (w7.alloc (.cells #[V m.lsn, V m.floor, .slice am Mm cm] 27)) w7.heap.size #[V m.lsn, V m.floor, .slice am Mm cm] := Box.new _ _ _
      clear KM s0 s1 s2 b0 u7 om
      go_upto_region 11 with fail
      generalize w7.alloc (.cells #[V m.lsn, V m.floor, .slice am Mm cm] 27) = w8 at *
      generalize w7.heap.size = BM at *
      replace U := U.trans ua
      replace bA := bA.up ua
      replace hr2 := hr2.up ua
      replace sm := sm.up ua
      clear ua
      obtain ⟨s0, s1, s2⟩ := bM.c3
      have KE := HKE.out _ w8 U sm hr2
      clear HKE sm hr2
      go_wp2_with fail
      refine KE.mono ?_
      rintro e w9 ⟨rfl, u9⟩
      replace U := U.trans u9
      replace bA := bA.up u9
      have ua : Up w9 (w9.alloc (.cells #[Z, Z, .slice none 0 0] 27)) := Up.alloc _ _
      have bE : Box (w9.alloc (.cells #[Z, Z, .slice none 0 0] 27)) w9.heap.size #[Z, Z, .slice none 0 0] := Box.new _ _ _
      clear KE s0 s1 s2 bM u9
      go_upto_region 14 with fail
      generalize w9.alloc (.cells #[Z, Z, .slice none 0 0] 27) = w10 at *
      generalize w9.heap.size = BE at *
      replace U := U.trans ua
      replace bA := bA.up ua
      clear ua
      go_wp2_with fail
      refine (HAG.out _ _).mono ?_
      rintro e w11 ⟨rfl, u11⟩
      replace U := U.trans u11
      replace bA := bA.up u11
      replace bE := bE.up u11
      clear u11
      obtain ⟨s0, s1, s2⟩ := bA.c3
      obtain ⟨t0, t1, t2⟩ := bE.c3
      go_wp2_with fail
      refine (HEZ.out _).mono ?_
      rintro e w12 ⟨rfl, u12⟩
      replace U := U.trans u12
      clear u12 s0 s1 s2 t0 t1 t2 bA bE HEZ
      go_wp2_with fail
      go_ret
      exact ⟨rfl, U⟩
    | ok t =>
      have KA := HRA.out _ (hspl.trans hR2)
      have HEND : Hid (OkS t ∧ (∀ odd : List RecV, odd.length = N1 → replayS m F (odd ++ two) = .ok t) ∧ replayS t F (one ++ two) = .ok t) := by
        have hr := HR1.out
        obtain ⟨h1, h2⟩ := hr
        subst h2
        rw [← HF.out.1] at h1 ⊢
        have k := fun odd ho => rep_end (s := ⟨l, f, xs⟩) h1 hR2 odd ho
        exact ⟨(k one rfl).1, fun odd ho => (k odd (ho.trans HN.out.2.1.symm)).2.1, (k one rfl).2.2⟩
      have KE := fun vm (u : World) (uu : Up w u) (h1 : SlE u vm m.keys) (h2 : SlR u (.slice a2 N2 c2) two) => HRP.out m vm n2 (.slice a2 N2 c2) two u uu h1 (by have := HG.out; omega) HG.out.2.1 h2 (by have := HN.out; have := G1.out; omega) HN.out.2.2.2.2.2
      rw [hR2] at KE
      have HKE : Hid (∀ vm u, Up w u → SlE u vm m.keys → SlR u (.slice a2 N2 c2) two → Calls Tryd.prog 22 #[.agg #[V m.lsn, V m.floor, vm], V n2, .slice a2 N2 c2] u (RunPost ad u (.ok t))) := KE
      have HET : Hid (∀ va vb u, SlE u va t.keys → SlE u vb t.keys → Calls Tryd.prog 24 #[.agg #[V t.lsn, V t.floor, va], .agg #[V t.lsn, V t.floor, vb]] u fun e w' => e = .returned (.bool true) ∧ Up u w') := fun va vb u h1 h2 => HEQ.out t va vb u h1 h2 (by have := HEND.out.1.len; omega)
      clear HRA hspl hR2 KE HEQ HAG HEZ hll
      go_wp2_with fail
      refine KA.mono ?_
      rintro e w5 ⟨va, rfl, oa, u5⟩
      obtain ⟨aa, Ma, ca, rfl⟩ : ∃ a m c, va = .slice a m c := by obtain ⟨a, c, e⟩ := oa.shape; exact ⟨_, _, _, e⟩
      have sa := oa.sl
      have ua : Up w5 (w5.alloc (.cells #[V t.lsn, V t.floor, .slice aa Ma ca] 27)) := Up.alloc _ _
      have bA : Box (w5.alloc (.cells #[V t.lsn, V t.floor, .slice aa Ma ca] 27)) w5.heap.size #[V t.lsn, V t.floor, .slice aa Ma ca] := Box.new _ _ _
      clear KA s0 s1 s2 oa
      go_upto_region 10 with fail
      generalize w5.alloc (.cells #[V t.lsn, V t.floor, .slice aa Ma ca] 27) = w6 at *
      generalize w5.heap.size = BA at *
      replace u5 := u5.trans ua
      replace U := U.trans u5
      replace b0 := b0.up u5
      replace sa := sa.up ua
      obtain ⟨s0, s1, s2⟩ := b0.c3
      have KM := HKM.out w6 U (h.up u5) (hr1.up u5)
      replace hr2 := hr2.up u5
      replace hb4 := hb4.up u5
      clear HKM ua u5 h hr1
      go_wp2_with fail
      refine KM.mono ?_
      rintro e w7 ⟨vm, rfl, om, u7⟩
      obtain ⟨am, Mm, cm, rfl⟩ : ∃ a m c, vm = .slice a m c := by obtain ⟨a, c, e⟩ := om.shape; exact ⟨_, _, _, e⟩
      have sm := om.sl
      have ua : Up w7 (w7.alloc (.cells #[V m.lsn, V m.floor, .slice am Mm cm] 27)) := Up.alloc _ _
      have bM : Box (w7.alloc (.cells #[V m.lsn, V m.floor, .slice am Mm cm] 27)) w7.heap.size #[V m.lsn, V m.floor, .slice am Mm cm] := Box.new _ _ _
      clear KM s0 s1 s2 b0 om
      go_upto_region 11 with fail
      generalize w7.alloc (.cells #[V m.lsn, V m.floor, .slice am Mm cm] 27) = w8 at *
      generalize w7.heap.size = BM at *
      replace u7 := u7.trans ua
      replace U := U.trans u7
      replace bA := bA.up u7
      replace sa := sa.up u7
      replace hr2 := hr2.up u7
      replace hb4 := hb4.up u7
      replace sm := sm.up ua
      clear ua u7
      obtain ⟨s0, s1, s2⟩ := bM.c3
      have KE := HKE.out _ w8 U sm hr2
      clear HKE
      go_wp2_with fail
      refine KE.mono ?_
      rintro e w9 ⟨ve, rfl, oe, u9⟩
      obtain ⟨ae, Me, ce, rfl⟩ : ∃ a m c, ve = .slice a m c := by obtain ⟨a, c, e⟩ := oe.shape; exact ⟨_, _, _, e⟩
      have se := oe.sl
      have ua : Up w9 (w9.alloc (.cells #[V t.lsn, V t.floor, .slice ae Me ce] 27)) := Up.alloc _ _
      have bE : Box (w9.alloc (.cells #[V t.lsn, V t.floor, .slice ae Me ce] 27)) w9.heap.size #[V t.lsn, V t.floor, .slice ae Me ce] := Box.new _ _ _
      clear KE s0 s1 s2 oe
      go_upto_region 14 with fail
      generalize w9.alloc (.cells #[V t.lsn, V t.floor, .slice ae Me ce] 27) = w10 at *
      generalize w9.heap.size = BE at *
      replace u9 := u9.trans ua
      replace U := U.trans u9
      replace bA := bA.up u9
      replace sa := sa.up u9
      replace hr2 := hr2.up u9
      replace hb4 := hb4.up u9
      replace sm := sm.up u9
      replace bM := bM.up u9
      replace se := se.up ua
      clear ua u9
      go_wp2_with fail
      refine (HAN.out _).mono ?_
      rintro e w11 ⟨rfl, u11⟩
      replace U := U.trans u11
      replace bA := bA.up u11
      replace sa := sa.up u11
      replace hr2 := hr2.up u11
      replace hb4 := hb4.up u11
      replace sm := sm.up u11
      replace bM := bM.up u11
      replace se := se.up u11
      replace bE := bE.up u11
      clear u11 HAN
      obtain ⟨s0, s1, s2⟩ := bA.c3
      obtain ⟨t0, t1, t2⟩ := bE.c3
      go_wp2_with fail
      refine (HET.out _ _ _ sa se).mono ?_
      rintro e w12 ⟨rfl, u12⟩
      replace U := U.trans u12
      replace hr2 := hr2.up u12
      replace hb4 := hb4.up u12
      replace sm := sm.up u12
      replace bM := bM.up u12
      replace se := se.up u12
      replace bE := bE.up u12
      clear u12 s0 s1 s2 t0 t1 t2 bA sa
      have HALL : Hid (Up w w12 ∧ SlR w12 (.slice a2 N2 c2) two ∧ SlR w12 (.slice a4 M4 c4) (one ++ two) ∧ SlE w12 (.slice am Mm cm) m.keys ∧ SlE w12 (.slice ae Me ce) t.keys ∧ Box w12 BM #[V m.lsn, V m.floor, .slice am Mm cm] ∧ Box w12 BE #[V t.lsn, V t.floor, .slice ae Me ce]) := ⟨U, hr2, hb4, sm, se, bM, bE⟩
      clear U hr2 hb4 sm se bM bE
      go_upto_region 19 with fail
      go_wp2_with fail
      go_loopg [15, 16] N1 (fun g vo i wr => ∃ (k : Nat) (ao : Option Addr) (c : Nat), k ≤ N1 ∧ g = N1 - k ∧ vo = .slice ao k c ∧ i = .int .i64 k ∧ Hid (OwnR wr w12.heap.size (.slice ao k c) (List.replicate k rec99) ∧ Up w12 wr))
      case atStart => exact ⟨0, none, 0, by omega, rfl, rfl, rfl, OwnR.nil _ _, Up.refl _⟩
      case round =>
        obtain ⟨k, ao, c, hkN, rfl, rfl, rfl, HR⟩ := hrel
        by_cases hlt : k < N1
        · have HD : Hid (N1 - (k + 1) < N1 - k ∧ k + 1 ≤ N1) := ⟨by omega, hlt⟩
          have hlt1 : (k : Int) < (N1 : Int) := by omega
          clear hkN
          go_wp2_with (at_builtin; refine wpList_appR _ rfl _ _ rfl w12.heap.size (.slice ao k c) (.slice (some ⟨wr.heap.size, 0, none⟩) 1 1) (List.replicate k rec99) [rec99] rfl rfl (HR.out.1.up (Up.alloc _ _)) (one_rec _) ?hb ?hlen ?_)
          case hb => have := HR.out.2.size; simp; omega
          case hlen => have := HD.out; have := G1.out; simp; omega
          intro v13 w13 o13 g13
          have u13 : Up w12 w13 := OwnR.grown (HR.out.1.up (Up.alloc _ _)) (HR.out.2.trans (Up.alloc _ _)) g13
          have o14 : OwnR w13 w12.heap.size v13 (List.replicate (k + 1) rec99) := by rw [List.replicate_succ']; exact o13
          obtain ⟨a13, c13, rfl⟩ : ∃ a c, v13 = .slice a (k + 1) c := by obtain ⟨a, c, e⟩ := o14.sl.1.shape; exact ⟨a, c, by rw [List.length_replicate] at e; exact e⟩
          have H13 : Hid (OwnR w13 w12.heap.size (.slice a13 (k + 1) c13) (List.replicate (k + 1) rec99) ∧ Up w12 w13) := ⟨o14, u13⟩
          clear o13 g13 u13 o14
          go_wp2_with fail
          go_roundg (N1 - (k + 1))
          case measure => exact HD.out.1
          case rel => exact ⟨k + 1, a13, c13, HD.out.2, rfl, rfl, by go_num, H13.out⟩
        · obtain rfl : k = N1 := by omega
          clear hlt hkN
          obtain ⟨oo, uo⟩ := HR.out
          have hsz := uo.size
          have HA2 := HALL
          go_wp2_with (at_builtin; refine wpList_appR _ rfl _ _ rfl w12.heap.size (.slice ao k c) (.slice a2 N2 c2) (List.replicate k rec99) two rfl rfl oo (HALL.out.2.1.up uo) hsz ?hlen ?_)
          case hlen => have := HN.out; have := G1.out; simp; omega
          intro v14 w14 o14 g14
          have u14 : Up w12 w14 := OwnR.grown oo uo g14
          obtain ⟨a14, M14, c14, rfl⟩ : ∃ a m c, v14 = .slice a m c := by obtain ⟨a, c, e⟩ := o14.sl.1.shape; exact ⟨_, _, _, e⟩
          obtain ⟨so, hco⟩ := o14.sl
          have HCO : Hid (∀ a m c, Value.slice a14 M14 c14 = .slice a m c → c ≤ maxLen) := hco
          obtain ⟨U, hr2, hb4, sm, se, bM, bE⟩ := HALL.out
          replace U := U.trans u14
          replace hb4 := hb4.up u14
          replace sm := sm.up u14
          replace se := se.up u14
          replace bM := bM.up u14
          replace bE := bE.up u14
          clear HALL HA2 HR oo uo hsz g14 o14 hco u14 hr2
          have KG := HRP.out m (.slice am Mm cm) F (.slice a14 M14 c14) (List.replicate k rec99 ++ two) w14 U sm (by have := HG.out; omega) HF.out.2 so (by have := HN.out; have := G1.out; simp; omega) HCO.out
          rw [HEND.out.2.1 _ (by simp)] at KG
          have KH := fun (u : World) (uu : Up w u) (h1 : SlE u (.slice ae Me ce) t.keys) (h2 : SlR u (.slice a4 M4 c4) (one ++ two)) => HRP.out t (.slice ae Me ce) F (.slice a4 M4 c4) (one ++ two) u uu h1 (by have := HEND.out.1.len; omega) HF.out.2 h2 (by have := HN.out; have := G1.out; simp; omega) HC4.out
          rw [HEND.out.2.2] at KH
          have HKH : Hid (∀ u, Up w u → SlE u (.slice ae Me ce) t.keys → SlR u (.slice a4 M4 c4) (one ++ two) → Calls Tryd.prog 22 #[.agg #[V t.lsn, V t.floor, .slice ae Me ce], V F, .slice a4 M4 c4] u (RunPost ad u (.ok t))) := KH
          clear KH HRP HCO HC4
          obtain ⟨s0, s1, s2⟩ := bM.c3
          go_wp2_with fail
          refine KG.mono ?_
          rintro e w15 ⟨vg, rfl, og, u15⟩
          obtain ⟨ag, Mg, cg, rfl⟩ : ∃ a m c, vg = .slice a m c := by obtain ⟨a, c, e⟩ := og.shape; exact ⟨_, _, _, e⟩
          have sg := og.sl
          have ua : Up w15 (w15.alloc (.cells #[V t.lsn, V t.floor, .slice ag Mg cg] 27)) := Up.alloc _ _
          have bG : Box (w15.alloc (.cells #[V t.lsn, V t.floor, .slice ag Mg cg] 27)) w15.heap.size #[V t.lsn, V t.floor, .slice ag Mg cg] := Box.new _ _ _
          clear KG s0 s1 s2 og bM sm so
          go_upto_region 25 with fail
          generalize w15.alloc (.cells #[V t.lsn, V t.floor, .slice ag Mg cg] 27) = w16 at *
          generalize w15.heap.size = BG at *
          replace u15 := u15.trans ua
          replace U := U.trans u15
          replace hb4 := hb4.up u15
          replace se := se.up u15
          replace bE := bE.up u15
          replace sg := sg.up ua
          clear ua u15
          obtain ⟨s0, s1, s2⟩ := bE.c3
          have KH := HKH.out w16 U se hb4
          clear HKH
          go_wp2_with fail
          refine KH.mono ?_
          rintro e w17 ⟨vh, rfl, oh, u17⟩
          obtain ⟨ah, Mh, ch, rfl⟩ : ∃ a m c, vh = .slice a m c := by obtain ⟨a, c, e⟩ := oh.shape; exact ⟨_, _, _, e⟩
          have sh := oh.sl
          have ua : Up w17 (w17.alloc (.cells #[V t.lsn, V t.floor, .slice ah Mh ch] 27)) := Up.alloc _ _
          have bH : Box (w17.alloc (.cells #[V t.lsn, V t.floor, .slice ah Mh ch] 27)) w17.heap.size #[V t.lsn, V t.floor, .slice ah Mh ch] := Box.new _ _ _
          clear KH s0 s1 s2 oh hb4
          go_upto_region 26 with fail
          generalize w17.alloc (.cells #[V t.lsn, V t.floor, .slice ah Mh ch] 27) = w18 at *
          generalize w17.heap.size = BH at *
          replace u17 := u17.trans ua
          replace U := U.trans u17
          replace se := se.up u17
          replace bE := bE.up u17
          replace sg := sg.up u17
          replace bG := bG.up u17
          replace sh := sh.up ua
          clear ua u17
          obtain ⟨s0, s1, s2⟩ := bE.c3
          obtain ⟨t0, t1, t2⟩ := bG.c3
          go_wp2_with fail
          refine (HET.out _ _ _ sg se).mono ?_
          rintro e w19 ⟨rfl, u19⟩
          replace U := U.trans u19
          replace se := se.up u19
          replace bE := bE.up u19
          replace sh := sh.up u19
          replace bH := bH.up u19
          clear u19 s0 s1 s2 t0 t1 t2 bG sg
          obtain ⟨s0, s1, s2⟩ := bE.c3
          obtain ⟨t0, t1, t2⟩ := bH.c3
          go_wp2_with fail
          refine (HET.out _ _ _ sh se).mono ?_
          rintro e w20 ⟨rfl, u20⟩
          replace U := U.trans u20
          clear u20 s0 s1 s2 t0 t1 t2 bE bH se sh HET
          go_wp2_with fail
          go_ret
          exact ⟨rfl, U⟩
end Go.Proofs.YtffldmeocmemeaaDoor

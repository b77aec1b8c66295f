/- state: the law StateLooks (laid by genLooks.py). Own work. -/
import Derived.Test.YtdddfapelencoaaDoorLkF
import Derived.Test.YtdddfapelencoaaDoorLkE
import Derived.Test.YtdddfapelencoaaDoorStEqW
import Derived.Test.YtdddfapelencoaaDoorLkM
import Derived.Test.YtdddfapelencoaaDoorHeldTo
set_option linter.unusedVariables false
set_option linter.unusedSimpArgs false
namespace Go.Proofs.YtdddfapelencoaaDoor
open Go Go.RowKit

/-- A state in its three cells. -/
def StIn (w : World) (b o : Nat) (s : StV) : Prop := ∃ a n c, w.cell? ⟨b, o, none⟩ = some (V s.lsn) ∧ w.cell? ⟨b, o + 1, none⟩ = some (V s.floor) ∧ w.cell? ⟨b, o + 2, none⟩ = some (.slice a n c) ∧ SlE w (.slice a n c) s.keys
theorem StIn.up {w w' : World} {b o : Nat} {s : StV} (h : StIn w b o s) (k : Up w w') : StIn w' b o s := by
  have c : ∀ a v, w.cell? a = some v → w'.cell? a = some v := fun a v e => (k.cell (World.block_lt_of_cell? w _ e)).trans e
  obtain ⟨a, n, m, h0, h1, h2, h3⟩ := h
  exact ⟨a, n, m, c _ _ h0, c _ _ h1, c _ _ h2, h3.up k⟩
/-- A slice of states. -/
def SlS (w : World) (v : Value) (L : List StV) : Prop := ∃ ao cap, v = .slice ao L.length cap ∧ (L ≠ [] → ∃ b o, ao = some ⟨b, o, none⟩ ∧ ∀ i (h : i < L.length), StIn w b (o + i * 3) L[i])
/-- What the reach says of a state. -/
def FitS (s : StV) : Prop := s.keys.length ≤ 1759218604390 ∧ ∀ x ∈ s.keys, x.1.size ≤ maxLen

/-- What the comparison of two neighbours reads. -/
structure LkN (B b o j : Nat) (l f lp fp : Nat) (a : Option Addr) (n c : Nat) (ap : Option Addr) (np cp : Nat) (u : World) : Prop where
  s : Box u B #[V l, V f, .slice a n c]
  p0 : u.cell? ⟨b, o + j * 3, none⟩ = some (V lp)
  p1 : u.cell? ⟨b, o + j * 3 + 1, none⟩ = some (V fp)
  p2 : u.cell? ⟨b, o + j * 3 + 2, none⟩ = some (.slice ap np cp)
theorem LkN.up {B b o j l f lp fp : Nat} {a : Option Addr} {n c : Nat} {ap : Option Addr} {np cp : Nat} {u u' : World} (h : LkN B b o j l f lp fp a n c ap np cp u) (k : Up u u') : LkN B b o j l f lp fp a n c ap np cp u' := by
  have c : ∀ a v, u.cell? a = some v → u'.cell? a = some v := fun a v e => (k.cell (World.block_lt_of_cell? u _ e)).trans e
  exact ⟨h.s.up k, c _ _ h.p0, c _ _ h.p1, c _ _ h.p2⟩

set_option maxRecDepth 20000 in
set_option maxHeartbeats 6400000 in
theorem StateLooks_any (v : Value) (L : List StV) (k : ByteArray) (w : World) (ad : Nat → Addr) (hk : ErrSet stErrs errTxt w ad) (h : SlS w v L) (hl : L.length ≤ 100000000000000) (hf : ∀ s ∈ L, FitS s) (hks : k.size ≤ 9223372036854775807) :
    Calls Tryd.prog 3 #[v, .string k] w fun e w' => e = .returned (.bool true) ∧ Up w w' := by
  obtain ⟨ao, cap, rfl, hx⟩ := h
  obtain ⟨N, hN⟩ : ∃ N, L.length = N := ⟨_, rfl⟩
  have HN : Hid (L.length = N) := hN
  have HX : Hid (L ≠ [] → ∃ b o, ao = some ⟨b, o, none⟩ ∧ ∀ i (h : i < L.length), StIn w b (o + i * 3) L[i]) := hx
  have HF : Hid (∀ s ∈ L, FitS s) := hf
  have HK : Hid (k.size ≤ 9223372036854775807) := hks
  have hlives := lives_any w ad hk
  rw [hN] at hl ⊢
  have hl1 : (N : Int) ≤ 100000000000000 := by omega
  clear hN hx hf hks hk
  go_enter Tryd.func3, Tryd.ntmps3
  go_wp2_with fail
  refine hlives.mono ?_
  rintro e w1 ⟨rfl, u1⟩
  have HU1 : Hid (Up w w1) := u1
  clear hlives u1
  go_wp2
  go_loopg [5] N (fun g s5 wr => ∃ i : Nat, i ≤ N ∧ g = N - i ∧ s5 = .int .i64 i ∧ Hid (Up w wr))
  case atStart => exact ⟨0, by omega, rfl, rfl, HU1⟩
  case round =>
    obtain ⟨i, hi, rfl, rfl, HR⟩ := hrel
    by_cases hlt : i < N
    · have hm : i < L.length := by rw [HN.out]; exact hlt
      obtain ⟨b, o, rfl, hat⟩ := HX.out (by rintro rfl; simp at hm)
      have HAT : Hid (∀ i (h : i < L.length), StIn w b (o + i * 3) L[i]) := hat
      obtain ⟨a, n, c, c0, c1, c2, hs⟩ := (hat i hm).up HR.out
      have hfit : FitS L[i] := HF.out _ (List.getElem_mem hm)
      have HD : Hid (N - (i + 1) < N - i ∧ i + 1 ≤ N) := ⟨by omega, hlt⟩
      have HI : Hid (L[i]? = some L[i]) := List.getElem?_eq_getElem hm
      generalize L[i] = s at *
      obtain ⟨l, f, xs⟩ := s
      simp only at c0 c1 c2 hs
      obtain ⟨hf1, hf2⟩ := hfit
      simp only at hf1 hf2
      have HS : Hid (SlE wr (.slice a n c) xs ∧ xs.length ≤ 1759218604390 ∧ ∀ x ∈ xs, x.1.size ≤ 9223372036854775807) := ⟨hs, hf1, fun x hx => Nat.le_trans (hf2 x hx) (by unfold maxLen; omega)⟩
      have B9 : Box (wr.alloc (.cells #[V l, V f, .slice a n c] 27)) wr.heap.size #[V l, V f, .slice a n c] := Box.new _ _ _
      have U9 : Up wr (wr.alloc (.cells #[V l, V f, .slice a n c] 27)) := Up.alloc _ _
      clear hat hs hf1 hf2 hm
      go_upto_region 7 with fail
      generalize wr.alloc (.cells #[V l, V f, .slice a n c] 27) = w2 at *
      generalize wr.heap.size = B at *
      clear c0 c1 c2
      obtain ⟨s0, s1, s2⟩ := B9.c3
      obtain ⟨q, hq⟩ : ∃ q, okS ⟨l, f, xs⟩ = q := ⟨_, rfl⟩
      have HQ : Hid (okS ⟨l, f, xs⟩ = q) := hq
      have hv := rValid_any (.slice a n c) l f xs w2 (HS.out.1.up U9) (by have := HS.out.2.1; omega) HS.out.2.2
      rw [hq] at hv
      clear hq
      go_wp2_with fail
      refine hv.mono ?_
      rintro e w3 ⟨rfl, u3⟩
      replace B9 := B9.up u3
      replace U9 := U9.trans u3
      clear hv u3 s0 s1 s2
      obtain ⟨s0, s1, s2⟩ := B9.c3
      have hv := Valid_any (.slice a n c) l f xs w3 (HS.out.1.up U9) (by have := HS.out.2.1; omega)
      rw [HQ.out] at hv
      have hqq : (q != q) = false := by cases q <;> rfl
      go_wp2_with fail
      refine hv.mono ?_
      rintro e w4 ⟨rfl, u3⟩
      replace B9 := B9.up u3
      replace U9 := U9.trans u3
      clear hv u3 s0 s1 s2
      obtain ⟨s0, s1, s2⟩ := B9.c3
      go_wp2_with fail
      refine (Find_any (.slice a n c) xs l f k w4 (HS.out.1.up U9) (by have := HS.out.2.1; omega)).mono ?_
      rintro e w5 ⟨i1, o1, rfl, hF1, u3⟩
      replace B9 := B9.up u3
      replace U9 := U9.trans u3
      have HF1 : Hid (i1 ≤ xs.length ∧ (Srt xs → i1 = pl k xs ∧ o1 = (getL k xs).isSome)) := hF1
      clear u3 s0 s1 s2 hF1 hqq
      obtain ⟨s0, s1, s2⟩ := B9.c3
      go_wp2_with fail
      refine (rFind_any (.slice a n c) l f xs k w5 (HS.out.1.up U9) (by have := HS.out.2.1; omega) HK.out HS.out.2.2).mono ?_
      rintro e w6 ⟨i2, o2, rfl, hF2, u3⟩
      replace B9 := B9.up u3
      replace U9 := U9.trans u3
      have HF2 : Hid (i2 ≤ xs.length ∧ (Srt xs → i2 = pl k xs ∧ o2 = (getL k xs).isSome)) := hF2
      clear u3 s0 s1 s2 hF2
      obtain ⟨s0, s1, s2⟩ := B9.c3
      have hE := Equal_any (.slice a n c) (.slice a n c) l f l f xs xs w6 (HS.out.1.up U9) (HS.out.1.up U9) (by have := HS.out.2.1; omega) (by have := HS.out.2.1; omega)
      rw [decide_eq_true rfl] at hE
      have HE : Hid (Calls Tryd.prog 11 #[.agg #[V l, V f, .slice a n c], .agg #[V l, V f, .slice a n c]] w6 fun e w' => e = .returned (.bool true) ∧ Up w6 w') := hE
      clear hE
      go_upto_region 12 with fail
      go_cut [52] (fun x wx => x = .bool false ∧ Hid (wx = w6))
      case first =>
        cases q with
        | false =>
          go_wp2_with fail
          go_meet
          case rel => exact ⟨rfl, rfl⟩
        | true =>
          have hO := (okS_iff _).1 HQ.out
          obtain ⟨e1, e2⟩ := HF1.out.2 hO.srt
          obtain ⟨e3, e4⟩ := HF2.out.2 hO.srt
          obtain rfl : i1 = i2 := e1.trans e3.symm
          obtain rfl : o1 = o2 := e2.trans e4.symm
          have hoo : (o1 != o1) = false := by cases o1 <;> rfl
          have hii : ((i1 : Int) != (i1 : Int)) = false := by simp
          clear e1 e2 e3 e4 hO
          go_wp2_with fail
          go_meet
          case rel => exact ⟨rfl, rfl⟩
      case rest =>
        obtain ⟨rfl, HW⟩ := hcut
        obtain rfl := HW.out
        go_wp2_with fail
        refine HE.out.mono ?_
        rintro e w7 ⟨rfl, u3⟩
        replace B9 := B9.up u3
        replace U9 := U9.trans u3
        clear u3 s0 s1 s2 HE HF1 HF2
        have HB9 : Hid (Box w7 B #[V l, V f, .slice a n c] ∧ Up wr w7) := ⟨B9, U9⟩
        go_upto_region 16 with fail
        go_cut [92] (fun x wx => x = .bool false ∧ Hid (Up w7 wx))
        case first =>
          cases i with
          | zero =>
            obtain ⟨s0, s1, s2⟩ := B9.c3
            go_quiet (fail)
            go_wp2_with fail
            go_meet
            case rel => exact ⟨rfl, up_drewN _ _⟩
          | succ j =>
            have hj : j < L.length := by have := HD.out.2; have := HN.out; omega
            obtain ⟨ap, np, cp, p0, p1, p2, hps⟩ := (HAT.out j hj).up (HR.out.trans U9)
            have hfp : FitS L[j] := HF.out _ (List.getElem_mem hj)
            have k1 : (j : Int) < (N : Int) := by have := HD.out.2; omega
            have k2 : (j : Int) ≤ 100000000000000 := by omega
            have k6 : IntKind.i64.wrap (j : Int) = (j : Int) := by have h6 := IntKind.wrap_i64 (j : Int); omega
            generalize L[j] = p at *
            obtain ⟨lp, fp, ys⟩ := p
            simp only at p0 p1 p2 hps
            have hy := hfp.1
            simp only at hy
            have hx := HS.out.2.1
            have hsx := HS.out.1.up U9
            have hs : LkN B b o j l f lp fp a n c ap np cp w7 := ⟨B9, p0, p1, p2⟩
            obtain ⟨d1, hd1⟩ : ∃ d, decide ((⟨lp, fp, ys⟩ : StV) = ⟨l, f, xs⟩) = d := ⟨_, rfl⟩
            obtain ⟨d2, hd2⟩ : ∃ d, decide ((⟨l, f, xs⟩ : StV) = ⟨lp, fp, ys⟩) = d := ⟨_, rfl⟩
            have HE1 : Hid (∀ u, Up w7 u → Calls Tryd.prog 11 #[.agg #[V lp, V fp, .slice ap np cp], .agg #[V l, V f, .slice a n c]] u fun e w' => e = .returned (.bool d1) ∧ Up u w') := fun u k => by
              have := Equal_any _ _ lp fp l f ys xs u (hps.up k) (hsx.up k) (by omega) (by omega); rwa [hd1] at this
            have HR1 : Hid (∀ u, Up w7 u → Calls Tryd.prog 12 #[.agg #[V lp, V fp, .slice ap np cp], .agg #[V l, V f, .slice a n c]] u fun e w' => e = .returned (.bool d1) ∧ Up u w') := fun u k => by
              have := requal_any _ _ lp fp l f ys xs u (hps.up k) (hsx.up k) (by omega) (by omega); rwa [hd1] at this
            have HE2 : Hid (∀ u, Up w7 u → Calls Tryd.prog 11 #[.agg #[V l, V f, .slice a n c], .agg #[V lp, V fp, .slice ap np cp]] u fun e w' => e = .returned (.bool d2) ∧ Up u w') := fun u k => by
              have := Equal_any _ _ l f lp fp xs ys u (hsx.up k) (hps.up k) (by omega) (by omega); rwa [hd2] at this
            have HR2 : Hid (∀ u, Up w7 u → Calls Tryd.prog 12 #[.agg #[V l, V f, .slice a n c], .agg #[V lp, V fp, .slice ap np cp]] u fun e w' => e = .returned (.bool d2) ∧ Up u w') := fun u k => by
              have := requal_any _ _ l f lp fp xs ys u (hsx.up k) (hps.up k) (by omega) (by omega); rwa [hd2] at this
            have hdd1 : (d1 != d1) = false := by cases d1 <;> rfl
            have hdd2 : (d2 != d2) = false := by cases d2 <;> rfl
            clear p0 p1 p2 hps hfp hy hx hsx hd1 hd2 B9 U9 hj hi hlt
            replace hs := hs.up (Up.drew w7)
            refine wp_region_held_drew (S := fun u => LkN B b o j l f lp fp a n c ap np cp u) (by kernel_rfl) hs (fun hs0 => ?_)
            clear hs0
            have UD : Up w7 w7.drew := Up.drew w7
            generalize w7.drew = wd at *
            refine take_to (some 57) (i := 0) (v := .int .i64 ((j : Int) + 1)) rfl rfl (by kernel_rfl) (by kernel_rfl) (by kernel_rfl) (fun _ _ _ h => h) (Or.inl ⟨by kernel_rfl, by intro u hSu; go_simp⟩) hs ?_
            simp only [Act.put, List.setIfInBounds_toArray, List.set_cons_zero, List.set_cons_succ]
            refine take_to (some 58) (i := 1) (v := .bool true) rfl rfl (by kernel_rfl) (by kernel_rfl) (by kernel_rfl) (fun _ _ _ h => h) (Or.inl ⟨by kernel_rfl, by intro u hSu; go_simp⟩) hs ?_
            simp only [Act.put, List.setIfInBounds_toArray, List.set_cons_zero, List.set_cons_succ]
            refine take_to (some 59) (i := 2) (v := .bool true) rfl rfl (by kernel_rfl) (by kernel_rfl) (by kernel_rfl) (fun _ _ _ h => h) (Or.inl ⟨by kernel_rfl, by intro u hSu; go_simp⟩) hs ?_
            simp only [Act.put, List.setIfInBounds_toArray, List.set_cons_zero, List.set_cons_succ]
            refine take_to (some 60) (i := 3) (v := .slice (some ⟨b, o, none⟩) N cap) rfl rfl (by kernel_rfl) (by kernel_rfl) (by kernel_rfl) (fun _ _ _ h => h) (Or.inl ⟨by kernel_rfl, by intro u hSu; go_simp⟩) hs ?_
            simp only [Act.put, List.setIfInBounds_toArray, List.set_cons_zero, List.set_cons_succ]
            refine take_to (some 61) (i := 4) (v := .int .i64 ((j : Int) + 1)) rfl rfl (by kernel_rfl) (by kernel_rfl) (by kernel_rfl) (fun _ _ _ h => h) (Or.inl ⟨by kernel_rfl, by intro u hSu; go_simp⟩) hs ?_
            simp only [Act.put, List.setIfInBounds_toArray, List.set_cons_zero, List.set_cons_succ]
            refine take_to (some 62) (i := 5) (v := .int .i64 (j : Int)) rfl rfl (by kernel_rfl) (by kernel_rfl) (by kernel_rfl) (fun _ _ _ h => h) (Or.inl ⟨by kernel_rfl, by intro u hSu; have q := k6; go_simp⟩) hs ?_
            simp only [Act.put, List.setIfInBounds_toArray, List.set_cons_zero, List.set_cons_succ]
            refine take_to (some 63) (i := 6) (v := .pointer (some ⟨b, o + j * 3, none⟩)) rfl rfl (by kernel_rfl) (by kernel_rfl) (by kernel_rfl) (fun _ _ _ h => h) (Or.inl ⟨by kernel_rfl, by intro u hSu; go_simp⟩) hs ?_
            simp only [Act.put, List.setIfInBounds_toArray, List.set_cons_zero, List.set_cons_succ]
            refine take_to (some 64) (i := 7) (v := .agg #[V lp, V fp, .slice ap np cp]) rfl rfl (by kernel_rfl) (by kernel_rfl) (by kernel_rfl) (fun _ _ _ h => h) (Or.inl ⟨by kernel_rfl, by intro u hSu; have q0 := hSu.p0; have q1 := hSu.p1; have q2 := hSu.p2; go_simp⟩) hs ?_
            simp only [Act.put, List.setIfInBounds_toArray, List.set_cons_zero, List.set_cons_succ]
            refine take_to (some 65) (i := 8) (v := .agg #[V l, V f, .slice a n c]) rfl rfl (by kernel_rfl) (by kernel_rfl) (by kernel_rfl) (fun _ _ _ h => h) (Or.inl ⟨by kernel_rfl, by intro u hSu; obtain ⟨q0, q1, q2⟩ := hSu.s.c3; go_simp⟩) hs ?_
            simp only [Act.put, List.setIfInBounds_toArray, List.set_cons_zero, List.set_cons_succ]
            refine take_to (some 67) (i := 10) (v := .slice (some ⟨b, o, none⟩) N cap) rfl rfl (by kernel_rfl) (by kernel_rfl) (by kernel_rfl) (fun _ _ _ h => h) (Or.inl ⟨by kernel_rfl, by intro u hSu; go_simp⟩) hs ?_
            simp only [Act.put, List.setIfInBounds_toArray, List.set_cons_zero, List.set_cons_succ]
            refine take_to (some 68) (i := 11) (v := .int .i64 ((j : Int) + 1)) rfl rfl (by kernel_rfl) (by kernel_rfl) (by kernel_rfl) (fun _ _ _ h => h) (Or.inl ⟨by kernel_rfl, by intro u hSu; go_simp⟩) hs ?_
            simp only [Act.put, List.setIfInBounds_toArray, List.set_cons_zero, List.set_cons_succ]
            refine take_to (some 69) (i := 12) (v := .int .i64 (j : Int)) rfl rfl (by kernel_rfl) (by kernel_rfl) (by kernel_rfl) (fun _ _ _ h => h) (Or.inl ⟨by kernel_rfl, by intro u hSu; have q := k6; go_simp⟩) hs ?_
            simp only [Act.put, List.setIfInBounds_toArray, List.set_cons_zero, List.set_cons_succ]
            refine take_to (some 70) (i := 13) (v := .pointer (some ⟨b, o + j * 3, none⟩)) rfl rfl (by kernel_rfl) (by kernel_rfl) (by kernel_rfl) (fun _ _ _ h => h) (Or.inl ⟨by kernel_rfl, by intro u hSu; go_simp⟩) hs ?_
            simp only [Act.put, List.setIfInBounds_toArray, List.set_cons_zero, List.set_cons_succ]
            refine take_to (some 71) (i := 14) (v := .agg #[V lp, V fp, .slice ap np cp]) rfl rfl (by kernel_rfl) (by kernel_rfl) (by kernel_rfl) (fun _ _ _ h => h) (Or.inl ⟨by kernel_rfl, by intro u hSu; have q0 := hSu.p0; have q1 := hSu.p1; have q2 := hSu.p2; go_simp⟩) hs ?_
            simp only [Act.put, List.setIfInBounds_toArray, List.set_cons_zero, List.set_cons_succ]
            refine take_to (some 72) (i := 15) (v := .agg #[V l, V f, .slice a n c]) rfl rfl (by kernel_rfl) (by kernel_rfl) (by kernel_rfl) (fun _ _ _ h => h) (Or.inl ⟨by kernel_rfl, by intro u hSu; obtain ⟨q0, q1, q2⟩ := hSu.s.c3; go_simp⟩) hs ?_
            simp only [Act.put, List.setIfInBounds_toArray, List.set_cons_zero, List.set_cons_succ]
            refine wpAnyH_ready (rs := [9]) (by kernel_rfl) (by simp) ?_
            refine AllReadyH.cons rfl (fun K hK => ?_) AllReadyH.nil
            go_simp
            refine (HE1.out _ UD).mono ?_
            rintro e w9 ⟨rfl, u9⟩
            replace UD := UD.trans u9
            replace hs := hs.up u9
            clear u9
            refine hK.out _ _ hs (fun _ => ?_)
            clear hK K
            refine wpAnyH_ready (rs := [16]) (by kernel_rfl) (by simp) ?_
            refine AllReadyH.cons rfl (fun K hK => ?_) AllReadyH.nil
            go_simp
            refine (HR1.out _ UD).mono ?_
            rintro e w9 ⟨rfl, u9⟩
            replace UD := UD.trans u9
            replace hs := hs.up u9
            clear u9
            refine hK.out _ _ hs (fun _ => ?_)
            clear hK K
            refine take_to (some 74) (i := 17) (v := .bool false) rfl rfl (by kernel_rfl) (by kernel_rfl) (by kernel_rfl) (fun _ _ _ h => h) (Or.inl ⟨by kernel_rfl, by intro u hSu; go_simp⟩) hs ?_
            simp only [Act.put, List.setIfInBounds_toArray, List.set_cons_zero, List.set_cons_succ]
            refine take_to (some 75) (i := 18) (v := .bool false) rfl rfl (by kernel_rfl) (by kernel_rfl) (by kernel_rfl) (fun _ _ _ h => h) (Or.inl ⟨by kernel_rfl, by intro u hSu; go_simp⟩) hs ?_
            simp only [Act.put, List.setIfInBounds_toArray, List.set_cons_zero, List.set_cons_succ]
            refine take_to (some 76) (i := 19) (v := .agg #[V l, V f, .slice a n c]) rfl rfl (by kernel_rfl) (by kernel_rfl) (by kernel_rfl) (fun _ _ _ h => h) (Or.inl ⟨by kernel_rfl, by intro u hSu; obtain ⟨q0, q1, q2⟩ := hSu.s.c3; go_simp⟩) hs ?_
            simp only [Act.put, List.setIfInBounds_toArray, List.set_cons_zero, List.set_cons_succ]
            refine take_to (some 77) (i := 20) (v := .slice (some ⟨b, o, none⟩) N cap) rfl rfl (by kernel_rfl) (by kernel_rfl) (by kernel_rfl) (fun _ _ _ h => h) (Or.inl ⟨by kernel_rfl, by intro u hSu; go_simp⟩) hs ?_
            simp only [Act.put, List.setIfInBounds_toArray, List.set_cons_zero, List.set_cons_succ]
            refine take_to (some 78) (i := 21) (v := .int .i64 ((j : Int) + 1)) rfl rfl (by kernel_rfl) (by kernel_rfl) (by kernel_rfl) (fun _ _ _ h => h) (Or.inl ⟨by kernel_rfl, by intro u hSu; go_simp⟩) hs ?_
            simp only [Act.put, List.setIfInBounds_toArray, List.set_cons_zero, List.set_cons_succ]
            refine take_to (some 79) (i := 22) (v := .int .i64 (j : Int)) rfl rfl (by kernel_rfl) (by kernel_rfl) (by kernel_rfl) (fun _ _ _ h => h) (Or.inl ⟨by kernel_rfl, by intro u hSu; have q := k6; go_simp⟩) hs ?_
            simp only [Act.put, List.setIfInBounds_toArray, List.set_cons_zero, List.set_cons_succ]
            refine take_to (some 80) (i := 23) (v := .pointer (some ⟨b, o + j * 3, none⟩)) rfl rfl (by kernel_rfl) (by kernel_rfl) (by kernel_rfl) (fun _ _ _ h => h) (Or.inl ⟨by kernel_rfl, by intro u hSu; go_simp⟩) hs ?_
            simp only [Act.put, List.setIfInBounds_toArray, List.set_cons_zero, List.set_cons_succ]
            refine take_to (some 81) (i := 24) (v := .agg #[V lp, V fp, .slice ap np cp]) rfl rfl (by kernel_rfl) (by kernel_rfl) (by kernel_rfl) (fun _ _ _ h => h) (Or.inl ⟨by kernel_rfl, by intro u hSu; have q0 := hSu.p0; have q1 := hSu.p1; have q2 := hSu.p2; go_simp⟩) hs ?_
            simp only [Act.put, List.setIfInBounds_toArray, List.set_cons_zero, List.set_cons_succ]
            refine take_to (some 83) (i := 26) (v := .agg #[V l, V f, .slice a n c]) rfl rfl (by kernel_rfl) (by kernel_rfl) (by kernel_rfl) (fun _ _ _ h => h) (Or.inl ⟨by kernel_rfl, by intro u hSu; obtain ⟨q0, q1, q2⟩ := hSu.s.c3; go_simp⟩) hs ?_
            simp only [Act.put, List.setIfInBounds_toArray, List.set_cons_zero, List.set_cons_succ]
            refine take_to (some 84) (i := 27) (v := .slice (some ⟨b, o, none⟩) N cap) rfl rfl (by kernel_rfl) (by kernel_rfl) (by kernel_rfl) (fun _ _ _ h => h) (Or.inl ⟨by kernel_rfl, by intro u hSu; go_simp⟩) hs ?_
            simp only [Act.put, List.setIfInBounds_toArray, List.set_cons_zero, List.set_cons_succ]
            refine take_to (some 85) (i := 28) (v := .int .i64 ((j : Int) + 1)) rfl rfl (by kernel_rfl) (by kernel_rfl) (by kernel_rfl) (fun _ _ _ h => h) (Or.inl ⟨by kernel_rfl, by intro u hSu; go_simp⟩) hs ?_
            simp only [Act.put, List.setIfInBounds_toArray, List.set_cons_zero, List.set_cons_succ]
            refine take_to (some 86) (i := 29) (v := .int .i64 (j : Int)) rfl rfl (by kernel_rfl) (by kernel_rfl) (by kernel_rfl) (fun _ _ _ h => h) (Or.inl ⟨by kernel_rfl, by intro u hSu; have q := k6; go_simp⟩) hs ?_
            simp only [Act.put, List.setIfInBounds_toArray, List.set_cons_zero, List.set_cons_succ]
            refine take_to (some 87) (i := 30) (v := .pointer (some ⟨b, o + j * 3, none⟩)) rfl rfl (by kernel_rfl) (by kernel_rfl) (by kernel_rfl) (fun _ _ _ h => h) (Or.inl ⟨by kernel_rfl, by intro u hSu; go_simp⟩) hs ?_
            simp only [Act.put, List.setIfInBounds_toArray, List.set_cons_zero, List.set_cons_succ]
            refine take_to (some 88) (i := 31) (v := .agg #[V lp, V fp, .slice ap np cp]) rfl rfl (by kernel_rfl) (by kernel_rfl) (by kernel_rfl) (fun _ _ _ h => h) (Or.inl ⟨by kernel_rfl, by intro u hSu; have q0 := hSu.p0; have q1 := hSu.p1; have q2 := hSu.p2; go_simp⟩) hs ?_
            simp only [Act.put, List.setIfInBounds_toArray, List.set_cons_zero, List.set_cons_succ]
            refine wpAnyH_ready (rs := [25]) (by kernel_rfl) (by simp) ?_
            refine AllReadyH.cons rfl (fun K hK => ?_) AllReadyH.nil
            go_simp
            refine (HE2.out _ UD).mono ?_
            rintro e w9 ⟨rfl, u9⟩
            replace UD := UD.trans u9
            replace hs := hs.up u9
            clear u9
            refine hK.out _ _ hs (fun _ => ?_)
            clear hK K
            refine wpAnyH_ready (rs := [32]) (by kernel_rfl) (by simp) ?_
            refine AllReadyH.cons rfl (fun K hK => ?_) AllReadyH.nil
            go_simp
            refine (HR2.out _ UD).mono ?_
            rintro e w9 ⟨rfl, u9⟩
            replace UD := UD.trans u9
            replace hs := hs.up u9
            clear u9
            refine hK.out _ _ hs (fun _ => ?_)
            clear hK K
            refine take_to (some 90) (i := 33) (v := .bool false) rfl rfl (by kernel_rfl) (by kernel_rfl) (by kernel_rfl) (fun _ _ _ h => h) (Or.inl ⟨by kernel_rfl, by intro u hSu; go_simp⟩) hs ?_
            simp only [Act.put, List.setIfInBounds_toArray, List.set_cons_zero, List.set_cons_succ]
            refine take_to (some 91) (i := 34) (v := .bool false) rfl rfl (by kernel_rfl) (by kernel_rfl) (by kernel_rfl) (fun _ _ _ h => h) (Or.inl ⟨by kernel_rfl, by intro u hSu; go_simp⟩) hs ?_
            simp only [Act.put, List.setIfInBounds_toArray, List.set_cons_zero, List.set_cons_succ]
            refine take_to (some 92) (i := 35) (v := .bool false) rfl rfl (by kernel_rfl) (by kernel_rfl) (by kernel_rfl) (fun _ _ _ h => h) (Or.inl ⟨by kernel_rfl, by intro u hSu; go_simp⟩) hs ?_
            simp only [Act.put, List.setIfInBounds_toArray, List.set_cons_zero, List.set_cons_succ]
            refine wpAnyH_done (by kernel_rfl) ?_ _
            go_wp2_with fail
            go_meet
            case rel => exact ⟨rfl, UD⟩
        case rest =>
          obtain ⟨rfl, HUX⟩ := hcut
          go_wp2
          go_roundg (N - (i + 1))
          case measure => exact HD.out.1
          case rel => exact ⟨i + 1, HD.out.2, rfl, by go_num, (HR.out.trans HB9.out.2).trans HUX.out⟩
    · obtain rfl : i = N := by omega
      go_wp2
      go_ret
      exact ⟨rfl, HR.out⟩
end Go.Proofs.YtdddfapelencoaaDoor

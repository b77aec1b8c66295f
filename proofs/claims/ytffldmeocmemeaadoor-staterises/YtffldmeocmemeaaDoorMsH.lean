/- Merged: StRisC. -/
import Derived.Test.YtffldmeocmemeaaDoorMsE
import Derived.Test.YtffldmeocmemeaaDoorHeldTo
import Derived.Deep.DeepCutAuto
set_option linter.unusedVariables false
set_option linter.unusedSimpArgs false
namespace Go.Proofs.YtffldmeocmemeaaDoor
open Go Go.RowKit

theorem pol_same (k : Int) (g s l p : Nat) (u : World) : (binOp .eql 35 (.agg #[.int .i64 k, V g, V s, V l, V p]) (.agg #[.int .i64 k, V g, V s, V l, V p])).run Tryd.prog u = .ok (.bool true) u := by
  simp [go_sem]
theorem lev_same (a b c : Nat) (u : World) : (binOp .eql 37 (.agg #[V a, V b, V c]) (.agg #[V a, V b, V c])).run Tryd.prog u = .ok (.bool true) u := by
  simp [go_sem]
/-- What the last region reads. -/
structure CeilAt (B BT b o b' o' p N M c0 c1 : Nat) (S : ByteArray) (P : Pol) (v : Lev) (rt ri rc : Nat) (u : World) : Prop where
  s : u.cell? ⟨B, 2, none⟩ = some (.slice (some ⟨b, o, none⟩) N c0)
  t : u.cell? ⟨BT, 2, none⟩ = some (.slice (some ⟨b', o', none⟩) M c1)
  x : EntAt u b (o + p * 9) (S, P, v)
  y : EntAt u b' (o' + p * 9) (S, P, ⟨rt, ri, rc⟩)
  r0 : u.cell? ⟨B + 1, 8, none⟩ = some (V rt)
  r1 : u.cell? ⟨B + 1, 9, none⟩ = some (V ri)
  r2 : u.cell? ⟨B + 1, 10, none⟩ = some (V rc)
theorem CeilAt.up {B BT b o b' o' p N M c0 c1 : Nat} {S : ByteArray} {P : Pol} {v : Lev} {rt ri rc : Nat} {u u' : World} (h : CeilAt B BT b o b' o' p N M c0 c1 S P v rt ri rc u) (k : Up u u') : CeilAt B BT b o b' o' p N M c0 c1 S P v rt ri rc u' := by
  have c : ∀ a v, u.cell? a = some v → u'.cell? a = some v := fun a v e => (k.cell (World.block_lt_of_cell? u _ e)).trans e
  exact ⟨c _ _ h.s, c _ _ h.t, h.x.up k, h.y.up k, c _ _ h.r0, c _ _ h.r1, c _ _ h.r2⟩

set_option maxRecDepth 20000 in
set_option maxHeartbeats 6400000 in
theorem rises_C (a0 : Option Addr) (l f N c0 F tf p M : Nat) (xs ys : List Ent) (fl : Nat) (S : ByteArray) (pk : Int) (rg rs rl rp rt ri rc : Nat) (w : World) (hF : fst64 l = F) (hN : xs.length = N) (hMl : ys.length = M) (hNl : N ≤ 4096) (hp : p ≤ N) (hf1 : f ≤ tf) (hf2 : fl ≤ tf) (hf3 : tf = f ∨ tf = fl)
    (hx : SlE w (.slice a0 N c0) xs) (hput : Put xs ys p (p + 1) (p + 1)) (hM : M = N) (hpN : p < N) (P : Pol) (v : Lev) (hatx : xs[p]? = some (S, P, v)) (hat : ys[p]? = some (S, P, ⟨rt, ri, rc⟩)) (hcov : pCov P ⟨rt, ri, rc⟩ v = true)
    (HL : Hid (∀ u, Up w u → Calls Tryd.prog 10 #[] u fun e w' => e = .returned (.bool true) ∧ Up u w'))
    (HA : Hid (∀ u, Up w u → Calls Tryd.prog 18 #[.agg #[V l, V f, .slice a0 N c0], V F, .agg #[.int .i64 3, V fl, .string S, .int .i64 pk, V rg, V rs, V rl, V rp, V rt, V ri, V rc]] u fun e w' => ∃ a1 c1, e = .returned (.tuple #[.agg #[V F, V tf, .slice a1 M c1], .nilIface]) ∧ SlE w' (.slice a1 M c1) ys ∧ Up u w'))
    (HVs : Hid (∀ u, Up w u → Calls Tryd.prog 12 #[.agg #[V l, V f, .slice a0 N c0]] u fun e w' => e = .returned (.bool true) ∧ Up u w'))
    (HVt : Hid (∀ u a1 c1, SlE u (.slice a1 M c1) ys → Calls Tryd.prog 12 #[.agg #[V F, V tf, .slice a1 M c1]] u fun e w' => e = .returned (.bool true) ∧ Up u w'))
    (HFs : Hid (∀ u, Up w u → Calls Tryd.prog 13 #[.agg #[V l, V f, .slice a0 N c0], .string S] u fun e w' => e = .returned (.tuple #[.int .i64 (p : Int), .bool true]) ∧ Up u w'))
    (HFt : Hid (∀ u a1 c1, SlE u (.slice a1 M c1) ys → Calls Tryd.prog 13 #[.agg #[V F, V tf, .slice a1 M c1], .string S] u fun e w' => e = .returned (.tuple #[.int .i64 (p : Int), .bool true]) ∧ Up u w')) :
    Calls Tryd.prog 7 #[.agg #[V l, V f, .slice a0 N c0], .agg #[.int .i64 3, V fl, .string S, .int .i64 pk, V rg, V rs, V rl, V rp, V rt, V ri, V rc]] w fun e w' => e = .returned (.bool true) ∧ Up w w' := by
  have e1 : IntKind.u64.wrap ((l : Int) + 1) = (F : Int) := by rw [← hF, IntKind.wrap_u64]; unfold fst64; omega
  have HN : Hid (xs.length = N ∧ ys.length = M) := ⟨hN, hMl⟩
  have HP : Hid (Put xs ys p (p + 1) (p + 1)) := hput
  have HX : Hid (SlE w (.slice a0 N c0) xs) := hx
  have g1 : ¬ (tf : Int) < (f : Int) := by omega
  have g2 : ¬ (tf : Int) < (fl : Int) := by omega
  have g4 : ¬ (p : Int) < 0 := by omega
  have g5 : ¬ (N : Int) < (p : Int) := by omega
  have g6 : ¬ (M : Int) < (p : Int) := by omega
  have g7 : ¬ (N : Int) < ((p : Int) + 1) := by omega
  have g8 : ¬ (M : Int) < ((p : Int) + 1) := by omega
  have g9 : (N : Int) - ((p : Int) + 1) = (M : Int) - ((p : Int) + 1) := by omega
  have gN : (N : Int) ≤ 4096 := by omega
  have gM : (M : Int) ≤ 4097 := by omega
  have gp : (p : Int) ≤ 4096 := by omega
  have HG : Hid (p ≤ N ∧ (p + 1) ≤ N ∧ (p + 1) ≤ M ∧ M - (p + 1) = N - (p + 1) ∧ N ≤ 4096 ∧ p ≤ M) := ⟨hp, by omega, by omega, by omega, hNl, by omega⟩
  have HAT : Hid (ys[p]? = some (S, P, ⟨rt, ri, rc⟩) ∧ xs[p]? = some (S, P, v) ∧ p < M ∧ p < N) := ⟨hat, hatx, by omega, hpN⟩
  have hpM : (p : Int) < (M : Int) := by omega
  have hpN1 : (p : Int) < (N : Int) := by omega
  have HCV : Hid (∀ u, Calls Tryd.prog 25 #[PP P, LL ⟨rt, ri, rc⟩, LL v] u fun e w' => e = .returned (.bool true) ∧ Up u w') := fun u => by rw [← hcov]; exact covers_call P _ v u
  clear hat hatx hcov hpN
  have HF3 : Hid ((tf = f ∨ tf = fl) ∧ f ≤ tf ∧ fl ≤ tf) := ⟨hf3, hf1, hf2⟩
  clear hF hN hMl hNl hp hf1 hf2 hf3 hx hput hM
  obtain ⟨B, hB⟩ : ∃ B, w.heap.size = B := ⟨_, rfl⟩
  have u0 : Up w ((w.alloc (.cells #[V l, V f, .slice a0 N c0] 27)).alloc (.cells #[.int .i64 3, V fl, .string S, .int .i64 pk, V rg, V rs, V rl, V rp, V rt, V ri, V rc] 39)) := (Up.alloc _ _).trans (Up.alloc _ _)
  have bs : Box ((w.alloc (.cells #[V l, V f, .slice a0 N c0] 27)).alloc (.cells #[.int .i64 3, V fl, .string S, .int .i64 pk, V rg, V rs, V rl, V rp, V rt, V ri, V rc] 39)) w.heap.size #[V l, V f, .slice a0 N c0] := (Box.new _ _ _).alloc _
  have br : Box ((w.alloc (.cells #[V l, V f, .slice a0 N c0] 27)).alloc (.cells #[.int .i64 3, V fl, .string S, .int .i64 pk, V rg, V rs, V rl, V rp, V rt, V ri, V rc] 39)) (w.heap.size + 1) #[.int .i64 3, V fl, .string S, .int .i64 pk, V rg, V rs, V rl, V rp, V rt, V ri, V rc] := Box.newAt (by simp)
  rw [hB] at bs br
  go_enter Tryd.func7, Tryd.ntmps7
  go_upto_region 1 with fail
  clear hB
  generalize (w.alloc (.cells #[V l, V f, .slice a0 N c0] 27)).alloc (.cells #[.int .i64 3, V fl, .string S, .int .i64 pk, V rg, V rs, V rl, V rp, V rt, V ri, V rc] 39) = w0 at *
  go_wp2_with fail
  refine (HL.out _ u0).mono ?_
  rintro e w1 ⟨rfl, u1⟩
  have U := u0.trans u1
  replace bs := bs.up u1
  replace br := br.up u1
  clear u0 u1 HL
  obtain ⟨s0, s1, s2⟩ := bs.c3
  obtain ⟨c0', c1', c2', c3', c4', c5', c6', c7', c8', c9', c10'⟩ := br.c11
  go_wp2_with fail
  refine (HA.out _ U).mono ?_
  rintro e w2 ⟨a1, c1, rfl, st, u2⟩
  replace U := U.trans u2
  have ua := Up.alloc w2 (.cells #[V F, V tf, .slice a1 M c1] 27)
  have bt : Box (w2.alloc (.cells #[V F, V tf, .slice a1 M c1] 27)) w2.heap.size #[V F, V tf, .slice a1 M c1] := Box.new _ _ _
  replace u2 := u2.trans ua
  replace bs := bs.up u2
  replace br := br.up u2
  replace U := U.trans ua
  replace st := st.up ua
  clear u2 HA ua s0 s1 s2 c0' c1' c2' c3' c4' c5' c6' c7' c8' c9' c10'
  go_upto_region 4 with fail
  generalize w2.alloc (.cells #[V F, V tf, .slice a1 M c1] 27) = w3 at *
  generalize w2.heap.size = BT at *
  go_upto_region 6 with fail
  have H3 : Hid (Up w w3 ∧ Box w3 B #[V l, V f, .slice a0 N c0] ∧ Box w3 (B + 1) #[.int .i64 3, V fl, .string S, .int .i64 pk, V rg, V rs, V rl, V rp, V rt, V ri, V rc] ∧ Box w3 BT #[V F, V tf, .slice a1 M c1] ∧ SlE w3 (.slice a1 M c1) ys) := ⟨U, bs, br, bt, st⟩
  clear U bs br bt st
  go_cut [100] (fun x wx => x = .bool false ∧ Hid (Up w3 wx))
  case first =>
    obtain ⟨s0, s1, s2⟩ := H3.out.2.1.c3
    go_wp2_with fail
    refine (HVs.out _ H3.out.1).mono ?_
    rintro e w4 ⟨rfl, u4⟩
    have HU4 : Hid (Up w3 w4) := u4
    clear u4 s0 s1 s2
    obtain ⟨t0, t1, t2⟩ := (H3.out.2.2.2.1.up HU4.out).c3
    go_wp2_with fail
    refine (HVt.out _ _ _ (H3.out.2.2.2.2.up HU4.out)).mono ?_
    rintro e w5 ⟨rfl, u5⟩
    have HU5 : Hid (Up w3 w5) := HU4.out.trans u5
    clear u5 t0 t1 t2 HU4
    obtain ⟨s0, s1, s2⟩ := (H3.out.2.1.up HU5.out).c3
    obtain ⟨t0, t1, t2⟩ := (H3.out.2.2.2.1.up HU5.out).c3
    obtain ⟨c0', c1', c2', c3', c4', c5', c6', c7', c8', c9', c10'⟩ := (H3.out.2.2.1.up HU5.out).c11
    clear c2' c3' c4' c5' c6' c7' c8' c9' c10'
    have k1 : decide (tf < f) = false := decide_eq_false (by have := HF3.out.2; omega)
    have k2 : decide (tf < fl) = false := decide_eq_false (by have := HF3.out.2; omega)
    by_cases hq : tf = f
    · subst hq
      go_wp2
      go_meet
      case rel => exact ⟨rfl, HU5.out⟩
    · obtain rfl : tf = fl := by have := HF3.out.1; omega
      have h1 : ¬ (tf : Int) = (f : Int) := by omega
      clear hq
      go_wp2
      go_meet
      case rel => exact ⟨rfl, HU5.out⟩
  case rest =>
    obtain ⟨rfl, HU5⟩ := hcut
    obtain ⟨s0, s1, s2⟩ := (H3.out.2.1.up HU5.out).c3
    obtain ⟨c0', c1', c2', c3', c4', c5', c6', c7', c8', c9', c10'⟩ := (H3.out.2.2.1.up HU5.out).c11
    clear c0' c1' c3' c4' c5' c6' c7' c8' c9' c10' e1
    go_wp2_with fail
    refine (HFs.out _ (H3.out.1.trans HU5.out)).mono ?_
    rintro e w6 ⟨rfl, u6⟩
    have HU6 : Hid (Up w3 w6) := HU5.out.trans u6
    clear u6 HU5 s0 s1 s2 c2'
    obtain ⟨t0, t1, t2⟩ := (H3.out.2.2.2.1.up HU6.out).c3
    obtain ⟨c0', c1', c2', c3', c4', c5', c6', c7', c8', c9', c10'⟩ := (H3.out.2.2.1.up HU6.out).c11
    clear c0' c1' c3' c4' c5' c6' c7' c8' c9' c10'
    go_wp2_with fail
    refine (HFt.out _ _ _ (H3.out.2.2.2.2.up HU6.out)).mono ?_
    rintro e w7 ⟨rfl, u7⟩
    have HU7 : Hid (Up w3 w7) := HU6.out.trans u7
    clear u7 HU6 t0 t1 t2 c2'
    obtain ⟨s0, s1, s2⟩ := (H3.out.2.1.up HU7.out).c3
    obtain ⟨t0, t1, t2⟩ := (H3.out.2.2.2.1.up HU7.out).c3
    have m1 : decide (N < p) = false := decide_eq_false (by have := HG.out; omega)
    have m2 : decide (M < p) = false := decide_eq_false (by have := HG.out; omega)
    have m3 : decide (N ≤ p) = false := decide_eq_false (by have := HG.out; omega)
    have m4 : decide (N < p + 1) = false := decide_eq_false (by have := HG.out; omega)
    have m5 : decide (M ≤ p) = false := decide_eq_false (by have := HG.out; omega)
    have m6 : decide (M < p + 1) = false := decide_eq_false (by have := HG.out; omega)
    go_wp2_with fail
    clear s0 s1 s2 t0 t1 t2
    go_loopg [13] p (fun g i wr => ∃ k : Nat, k ≤ p ∧ g = p - k ∧ i = .int .i64 k ∧ Hid (Up w3 wr))
    case atStart => exact ⟨0, by omega, rfl, rfl, HU7.out⟩
    case round =>
      obtain ⟨k, hk, rfl, rfl, HR⟩ := hrel
      obtain ⟨s0, s1, s2⟩ := (H3.out.2.1.up HR.out).c3
      obtain ⟨t0, t1, t2⟩ := (H3.out.2.2.2.1.up HR.out).c3
      by_cases hlt : k < p
      · have hkN : k < xs.length := by have := HN.out; have := HG.out; omega
        have hy := HP.out.ahead k hlt
        rw [List.getElem?_eq_getElem hkN] at hy
        have hxk : xs[k]? = some xs[k] := List.getElem?_eq_getElem hkN
        obtain ⟨b, o, rfl, ha⟩ := ((HX.out.up (H3.out.1.trans HR.out))).here (by rintro rfl; simp at hkN)
        obtain ⟨b', o', rfl, hb⟩ := (H3.out.2.2.2.2.up HR.out).here (by rintro rfl; simp at hy)
        obtain ⟨c0', c1', c2', c3', c4', c5', c6', c7', c8'⟩ := ha.at? hxk
        obtain ⟨d0, d1, d2, d3, d4, d5, d6, d7, d8⟩ := hb.at? hy
        have hne := fun u => ent_neq xs[k] xs[k] u
        have HK : Hid (p - (k + 1) < p - k ∧ k + 1 ≤ p) := ⟨by omega, hlt⟩
        have hk1 : (k : Int) < (N : Int) := by have := HN.out; omega
        have hk2 : (k : Int) < (M : Int) := by have := HG.out; omega
        generalize xs[k] = x at *
        rw [show decide (¬ x = x) = false from decide_eq_false (by simp)] at hne
        obtain ⟨S1, ⟨pk1, pg1, ps1, pq1, pp1⟩, lt1, li1, lc1⟩ := x
        simp only at c0' c1' c2' c3' c4' c5' c6' c7' c8' d0 d1 d2 d3 d4 d5 d6 d7 d8 hne
        clear ha hb hkN hxk hy hk
        go_wp2_with fail
        go_quiet (fail)
        go_wp2
        go_roundg (p - (k + 1))
        case measure => exact HK.out.1
        case rel => exact ⟨k + 1, HK.out.2, rfl, by go_num, HR.out.trans (up_drewN _ _)⟩
      · obtain rfl : k = p := by omega
        clear hlt hk
        go_wp2_with fail
        clear s0 s1 s2 t0 t1 t2
        go_loopg [14] (N - (k + 1)) (fun g i ws => ∃ j : Nat, j ≤ N - (k + 1) ∧ g = N - (k + 1) - j ∧ i = .int .i64 j ∧ Hid (Up w3 ws))
        case atStart => exact ⟨0, by omega, rfl, rfl, HR.out⟩
        case round =>
          obtain ⟨j, hj, rfl, rfl, HS⟩ := hrel
          clear HR
          obtain ⟨s0, s1, s2⟩ := (H3.out.2.1.up HS.out).c3
          obtain ⟨t0, t1, t2⟩ := (H3.out.2.2.2.1.up HS.out).c3
          by_cases hlt : j < N - (k + 1)
          · have hkN : (k + 1) + j < xs.length := by have := HN.out; have := HG.out; omega
            have hy := HP.out.behind j
            rw [List.getElem?_eq_getElem hkN] at hy
            have hxk : xs[(k + 1) + j]? = some xs[(k + 1) + j] := List.getElem?_eq_getElem hkN
            obtain ⟨b, o, rfl, ha⟩ := ((HX.out.up (H3.out.1.trans HS.out))).here (by rintro rfl; simp at hkN)
            obtain ⟨b', o', rfl, hb⟩ := (H3.out.2.2.2.2.up HS.out).here (by rintro rfl; simp at hy)
            obtain ⟨c0', c1', c2', c3', c4', c5', c6', c7', c8'⟩ := ha.at? hxk
            obtain ⟨d0, d1, d2, d3, d4, d5, d6, d7, d8⟩ := hb.at? hy
            have hne := fun u => ent_neq xs[(k + 1) + j] xs[(k + 1) + j] u
            have HK : Hid (N - (k + 1) - (j + 1) < N - (k + 1) - j ∧ j + 1 ≤ N - (k + 1)) := ⟨by omega, hlt⟩
            have hk1 : ((k : Int) + 1) + (j : Int) < (N : Int) := by have := HN.out; omega
            have hk2 : ((k : Int) + 1) + (j : Int) < (M : Int) := by have := HG.out; omega
            have q1 : (((k : Int) + 1) + (j : Int)).toNat = (k + 1) + j := by omega
            have q2 : (((k : Int) + 1) + (j : Int)).toNat = (k + 1) + j := by omega
            generalize xs[(k + 1) + j] = x at *
            rw [show decide (¬ x = x) = false from decide_eq_false (by simp)] at hne
            obtain ⟨S1, ⟨pk1, pg1, ps1, pq1, pp1⟩, lt1, li1, lc1⟩ := x
            simp only at c0' c1' c2' c3' c4' c5' c6' c7' c8' d0 d1 d2 d3 d4 d5 d6 d7 d8 hne
            clear ha hb hkN hxk hy hj hlt
            go_wp2_with fail
            go_quiet (fail)
            go_wp2
            go_roundg (N - (k + 1) - (j + 1))
            case measure => exact HK.out.1
            case rel => exact ⟨j + 1, HK.out.2, rfl, by go_num, HS.out.trans (up_drewN _ _)⟩
          · obtain rfl : j = N - (k + 1) := by omega
            have hend : ¬ ((k : Int) + 1) + ((N - (k + 1) : Nat) : Int) < (N : Int) := by have := HG.out; omega
            obtain ⟨J, hJ⟩ : ∃ J, N - (k + 1) = J := ⟨_, rfl⟩
            rw [hJ] at hend ⊢
            have hJ1 : (J : Int) ≤ 4096 := by omega
            clear hJ hlt hj
            obtain ⟨c0', c1', c2', c3', c4', c5', c6', c7', c8', c9', c10'⟩ := (H3.out.2.2.1.up HS.out).c11
            obtain ⟨b', o', rfl, hb⟩ := (H3.out.2.2.2.2.up HS.out).here (by rintro rfl; have := HAT.out.1; simp at this)
            obtain ⟨b, o, rfl, ha⟩ := ((HX.out.up (H3.out.1.trans HS.out))).here (by rintro rfl; have := HAT.out.2.1; simp at this)
            have U : Up w wr := H3.out.1.trans HS.out
            have hs : CeilAt B BT b o b' o' k N M c0 c1 S P v rt ri rc wr := ⟨s2, t2, ha.at? HAT.out.2.1, hb.at? HAT.out.1, c8', c9', c10'⟩
            obtain ⟨pk1, pg1, ps1, pq1, pp1⟩ := P
            obtain ⟨lt1, li1, lc1⟩ := v
            have hPE : ∀ u, (binOp .eql 35 (.agg #[.int .i64 pk1, V pg1, V ps1, V pq1, V pp1]) (.agg #[.int .i64 pk1, V pg1, V ps1, V pq1, V pp1])).run Tryd.prog u = .ok (.bool true) u := fun u => pol_same _ _ _ _ _ u
            have hLE : ∀ u, (binOp .eql 37 (.agg #[V rt, V ri, V rc]) (.agg #[V rt, V ri, V rc])).run Tryd.prog u = .ok (.bool true) u := fun u => lev_same _ _ _ u
            clear ha hb c8' c9' c10'
            go_upto_region 35 with fail
            clear s0 s1 s2 t0 t1 t2
            replace hs := hs.up (Up.drew wr)
            replace U := U.trans (Up.drew wr)
            refine wp_region_held_drew (S := fun u => CeilAt B BT b o b' o' k N M c0 c1 S ⟨pk1, pg1, ps1, pq1, pp1⟩ ⟨lt1, li1, lc1⟩ rt ri rc u) (by kernel_rfl) hs (fun hs0 => ?_)
            clear hs0
            generalize wr.drew = wd at *
            refine take_to (some 238) (i := 0) (v := .bool true) rfl rfl (by kernel_rfl) (by kernel_rfl) (by kernel_rfl) (fun _ _ _ h => h) (Or.inl ⟨by kernel_rfl, by intro u hSu; go_simp⟩) hs ?_
            simp only [Act.put, List.setIfInBounds_toArray, List.set_cons_zero, List.set_cons_succ]
            refine take_to (some 239) (i := 1) (v := .bool true) rfl rfl (by kernel_rfl) (by kernel_rfl) (by kernel_rfl) (fun _ _ _ h => h) (Or.inl ⟨by kernel_rfl, by intro u hSu; go_simp⟩) hs ?_
            simp only [Act.put, List.setIfInBounds_toArray, List.set_cons_zero, List.set_cons_succ]
            refine take_to (some 240) (i := 2) (v := .bool true) rfl rfl (by kernel_rfl) (by kernel_rfl) (by kernel_rfl) (fun _ _ _ h => h) (Or.inl ⟨by kernel_rfl, by intro u hSu; go_simp⟩) hs ?_
            simp only [Act.put, List.setIfInBounds_toArray, List.set_cons_zero, List.set_cons_succ]
            refine take_to (some 241) (i := 3) (v := .bool true) rfl rfl (by kernel_rfl) (by kernel_rfl) (by kernel_rfl) (fun _ _ _ h => h) (Or.inl ⟨by kernel_rfl, by intro u hSu; go_simp⟩) hs ?_
            simp only [Act.put, List.setIfInBounds_toArray, List.set_cons_zero, List.set_cons_succ]
            refine take_to (some 242) (i := 4) (v := .bool true) rfl rfl (by kernel_rfl) (by kernel_rfl) (by kernel_rfl) (fun _ _ _ h => h) (Or.inl ⟨by kernel_rfl, by intro u hSu; go_simp⟩) hs ?_
            simp only [Act.put, List.setIfInBounds_toArray, List.set_cons_zero, List.set_cons_succ]
            refine take_to (some 243) (i := 5) (v := .pointer (some ⟨BT, 2, none⟩)) rfl rfl (by kernel_rfl) (by kernel_rfl) (by kernel_rfl) (fun _ _ _ h => h) (Or.inl ⟨by kernel_rfl, by intro u hSu; go_simp⟩) hs ?_
            simp only [Act.put, List.setIfInBounds_toArray, List.set_cons_zero, List.set_cons_succ]
            refine take_to (some 244) (i := 6) (v := .slice (some ⟨b', o', none⟩) M c1) rfl rfl (by kernel_rfl) (by kernel_rfl) (by kernel_rfl) (fun _ _ _ h => h) (Or.inl ⟨by kernel_rfl, by intro u hSu; have q := hSu.t; go_simp⟩) hs ?_
            simp only [Act.put, List.setIfInBounds_toArray, List.set_cons_zero, List.set_cons_succ]
            refine take_to (some 245) (i := 7) (v := .int .i64 (k : Int)) rfl rfl (by kernel_rfl) (by kernel_rfl) (by kernel_rfl) (fun _ _ _ h => h) (Or.inl ⟨by kernel_rfl, by intro u hSu; go_simp⟩) hs ?_
            simp only [Act.put, List.setIfInBounds_toArray, List.set_cons_zero, List.set_cons_succ]
            refine take_to (some 246) (i := 8) (v := .pointer (some ⟨b', o' + k * 9, none⟩)) rfl rfl (by kernel_rfl) (by kernel_rfl) (by kernel_rfl) (fun _ _ _ h => h) (Or.inl ⟨by kernel_rfl, by intro u hSu; go_simp⟩) hs ?_
            simp only [Act.put, List.setIfInBounds_toArray, List.set_cons_zero, List.set_cons_succ]
            refine take_to (some 247) (i := 9) (v := .pointer (some ⟨b', o' + k * 9 + 1, none⟩)) rfl rfl (by kernel_rfl) (by kernel_rfl) (by kernel_rfl) (fun _ _ _ h => h) (Or.inl ⟨by kernel_rfl, by intro u hSu; go_simp⟩) hs ?_
            simp only [Act.put, List.setIfInBounds_toArray, List.set_cons_zero, List.set_cons_succ]
            refine take_to (some 248) (i := 10) (v := .agg #[.int .i64 pk1, V pg1, V ps1, V pq1, V pp1]) rfl rfl (by kernel_rfl) (by kernel_rfl) (by kernel_rfl) (fun _ _ _ h => h) (Or.inl ⟨by kernel_rfl, by intro u hSu; obtain ⟨y0, y1, y2, y3, y4, y5, y6, y7, y8⟩ := hSu.y; simp only at y0 y1 y2 y3 y4 y5 y6 y7 y8; go_simp⟩) hs ?_
            simp only [Act.put, List.setIfInBounds_toArray, List.set_cons_zero, List.set_cons_succ]
            refine take_to (some 249) (i := 11) (v := .pointer (some ⟨B, 2, none⟩)) rfl rfl (by kernel_rfl) (by kernel_rfl) (by kernel_rfl) (fun _ _ _ h => h) (Or.inl ⟨by kernel_rfl, by intro u hSu; go_simp⟩) hs ?_
            simp only [Act.put, List.setIfInBounds_toArray, List.set_cons_zero, List.set_cons_succ]
            refine take_to (some 250) (i := 12) (v := .slice (some ⟨b, o, none⟩) N c0) rfl rfl (by kernel_rfl) (by kernel_rfl) (by kernel_rfl) (fun _ _ _ h => h) (Or.inl ⟨by kernel_rfl, by intro u hSu; have q := hSu.s; go_simp⟩) hs ?_
            simp only [Act.put, List.setIfInBounds_toArray, List.set_cons_zero, List.set_cons_succ]
            refine take_to (some 251) (i := 13) (v := .int .i64 (k : Int)) rfl rfl (by kernel_rfl) (by kernel_rfl) (by kernel_rfl) (fun _ _ _ h => h) (Or.inl ⟨by kernel_rfl, by intro u hSu; go_simp⟩) hs ?_
            simp only [Act.put, List.setIfInBounds_toArray, List.set_cons_zero, List.set_cons_succ]
            refine take_to (some 252) (i := 14) (v := .pointer (some ⟨b, o + k * 9, none⟩)) rfl rfl (by kernel_rfl) (by kernel_rfl) (by kernel_rfl) (fun _ _ _ h => h) (Or.inl ⟨by kernel_rfl, by intro u hSu; go_simp⟩) hs ?_
            simp only [Act.put, List.setIfInBounds_toArray, List.set_cons_zero, List.set_cons_succ]
            refine take_to (some 253) (i := 15) (v := .pointer (some ⟨b, o + k * 9 + 1, none⟩)) rfl rfl (by kernel_rfl) (by kernel_rfl) (by kernel_rfl) (fun _ _ _ h => h) (Or.inl ⟨by kernel_rfl, by intro u hSu; go_simp⟩) hs ?_
            simp only [Act.put, List.setIfInBounds_toArray, List.set_cons_zero, List.set_cons_succ]
            refine take_to (some 254) (i := 16) (v := .agg #[.int .i64 pk1, V pg1, V ps1, V pq1, V pp1]) rfl rfl (by kernel_rfl) (by kernel_rfl) (by kernel_rfl) (fun _ _ _ h => h) (Or.inl ⟨by kernel_rfl, by intro u hSu; obtain ⟨y0, y1, y2, y3, y4, y5, y6, y7, y8⟩ := hSu.x; simp only at y0 y1 y2 y3 y4 y5 y6 y7 y8; go_simp⟩) hs ?_
            simp only [Act.put, List.setIfInBounds_toArray, List.set_cons_zero, List.set_cons_succ]
            refine take_to (some 255) (i := 17) (v := .bool true) rfl rfl (by kernel_rfl) (by kernel_rfl) (by kernel_rfl) (fun _ _ _ h => h) (Or.inl ⟨by kernel_rfl, by intro u hSu; have q := hPE u; go_simp⟩) hs ?_
            simp only [Act.put, List.setIfInBounds_toArray, List.set_cons_zero, List.set_cons_succ]
            refine take_to (some 256) (i := 18) (v := .bool true) rfl rfl (by kernel_rfl) (by kernel_rfl) (by kernel_rfl) (fun _ _ _ h => h) (Or.inl ⟨by kernel_rfl, by intro u hSu; go_simp⟩) hs ?_
            simp only [Act.put, List.setIfInBounds_toArray, List.set_cons_zero, List.set_cons_succ]
            refine take_to (some 257) (i := 19) (v := .bool true) rfl rfl (by kernel_rfl) (by kernel_rfl) (by kernel_rfl) (fun _ _ _ h => h) (Or.inl ⟨by kernel_rfl, by intro u hSu; go_simp⟩) hs ?_
            simp only [Act.put, List.setIfInBounds_toArray, List.set_cons_zero, List.set_cons_succ]
            refine take_to (some 258) (i := 20) (v := .pointer (some ⟨BT, 2, none⟩)) rfl rfl (by kernel_rfl) (by kernel_rfl) (by kernel_rfl) (fun _ _ _ h => h) (Or.inl ⟨by kernel_rfl, by intro u hSu; go_simp⟩) hs ?_
            simp only [Act.put, List.setIfInBounds_toArray, List.set_cons_zero, List.set_cons_succ]
            refine take_to (some 259) (i := 21) (v := .slice (some ⟨b', o', none⟩) M c1) rfl rfl (by kernel_rfl) (by kernel_rfl) (by kernel_rfl) (fun _ _ _ h => h) (Or.inl ⟨by kernel_rfl, by intro u hSu; have q := hSu.t; go_simp⟩) hs ?_
            simp only [Act.put, List.setIfInBounds_toArray, List.set_cons_zero, List.set_cons_succ]
            refine take_to (some 260) (i := 22) (v := .int .i64 (k : Int)) rfl rfl (by kernel_rfl) (by kernel_rfl) (by kernel_rfl) (fun _ _ _ h => h) (Or.inl ⟨by kernel_rfl, by intro u hSu; go_simp⟩) hs ?_
            simp only [Act.put, List.setIfInBounds_toArray, List.set_cons_zero, List.set_cons_succ]
            refine take_to (some 261) (i := 23) (v := .pointer (some ⟨b', o' + k * 9, none⟩)) rfl rfl (by kernel_rfl) (by kernel_rfl) (by kernel_rfl) (fun _ _ _ h => h) (Or.inl ⟨by kernel_rfl, by intro u hSu; go_simp⟩) hs ?_
            simp only [Act.put, List.setIfInBounds_toArray, List.set_cons_zero, List.set_cons_succ]
            refine take_to (some 262) (i := 24) (v := .pointer (some ⟨b', o' + k * 9 + 6, none⟩)) rfl rfl (by kernel_rfl) (by kernel_rfl) (by kernel_rfl) (fun _ _ _ h => h) (Or.inl ⟨by kernel_rfl, by intro u hSu; go_simp⟩) hs ?_
            simp only [Act.put, List.setIfInBounds_toArray, List.set_cons_zero, List.set_cons_succ]
            refine take_to (some 263) (i := 25) (v := .agg #[V rt, V ri, V rc]) rfl rfl (by kernel_rfl) (by kernel_rfl) (by kernel_rfl) (fun _ _ _ h => h) (Or.inl ⟨by kernel_rfl, by intro u hSu; obtain ⟨y0, y1, y2, y3, y4, y5, y6, y7, y8⟩ := hSu.y; simp only at y0 y1 y2 y3 y4 y5 y6 y7 y8; go_simp⟩) hs ?_
            simp only [Act.put, List.setIfInBounds_toArray, List.set_cons_zero, List.set_cons_succ]
            refine take_to (some 264) (i := 26) (v := .pointer (some ⟨B + 1, 8, none⟩)) rfl rfl (by kernel_rfl) (by kernel_rfl) (by kernel_rfl) (fun _ _ _ h => h) (Or.inl ⟨by kernel_rfl, by intro u hSu; go_simp⟩) hs ?_
            simp only [Act.put, List.setIfInBounds_toArray, List.set_cons_zero, List.set_cons_succ]
            refine take_to (some 265) (i := 27) (v := .agg #[V rt, V ri, V rc]) rfl rfl (by kernel_rfl) (by kernel_rfl) (by kernel_rfl) (fun _ _ _ h => h) (Or.inl ⟨by kernel_rfl, by intro u hSu; have q0 := hSu.r0; have q1 := hSu.r1; have q2 := hSu.r2; go_simp⟩) hs ?_
            simp only [Act.put, List.setIfInBounds_toArray, List.set_cons_zero, List.set_cons_succ]
            refine take_to (some 266) (i := 28) (v := .bool true) rfl rfl (by kernel_rfl) (by kernel_rfl) (by kernel_rfl) (fun _ _ _ h => h) (Or.inl ⟨by kernel_rfl, by intro u hSu; have q := hLE u; go_simp⟩) hs ?_
            simp only [Act.put, List.setIfInBounds_toArray, List.set_cons_zero, List.set_cons_succ]
            refine take_to (some 267) (i := 29) (v := .bool true) rfl rfl (by kernel_rfl) (by kernel_rfl) (by kernel_rfl) (fun _ _ _ h => h) (Or.inl ⟨by kernel_rfl, by intro u hSu; go_simp⟩) hs ?_
            simp only [Act.put, List.setIfInBounds_toArray, List.set_cons_zero, List.set_cons_succ]
            refine take_to (some 268) (i := 30) (v := .bool true) rfl rfl (by kernel_rfl) (by kernel_rfl) (by kernel_rfl) (fun _ _ _ h => h) (Or.inl ⟨by kernel_rfl, by intro u hSu; go_simp⟩) hs ?_
            simp only [Act.put, List.setIfInBounds_toArray, List.set_cons_zero, List.set_cons_succ]
            refine take_to (some 269) (i := 31) (v := .pointer (some ⟨B, 2, none⟩)) rfl rfl (by kernel_rfl) (by kernel_rfl) (by kernel_rfl) (fun _ _ _ h => h) (Or.inl ⟨by kernel_rfl, by intro u hSu; go_simp⟩) hs ?_
            simp only [Act.put, List.setIfInBounds_toArray, List.set_cons_zero, List.set_cons_succ]
            refine take_to (some 270) (i := 32) (v := .slice (some ⟨b, o, none⟩) N c0) rfl rfl (by kernel_rfl) (by kernel_rfl) (by kernel_rfl) (fun _ _ _ h => h) (Or.inl ⟨by kernel_rfl, by intro u hSu; have q := hSu.s; go_simp⟩) hs ?_
            simp only [Act.put, List.setIfInBounds_toArray, List.set_cons_zero, List.set_cons_succ]
            refine take_to (some 271) (i := 33) (v := .int .i64 (k : Int)) rfl rfl (by kernel_rfl) (by kernel_rfl) (by kernel_rfl) (fun _ _ _ h => h) (Or.inl ⟨by kernel_rfl, by intro u hSu; go_simp⟩) hs ?_
            simp only [Act.put, List.setIfInBounds_toArray, List.set_cons_zero, List.set_cons_succ]
            refine take_to (some 272) (i := 34) (v := .pointer (some ⟨b, o + k * 9, none⟩)) rfl rfl (by kernel_rfl) (by kernel_rfl) (by kernel_rfl) (fun _ _ _ h => h) (Or.inl ⟨by kernel_rfl, by intro u hSu; go_simp⟩) hs ?_
            simp only [Act.put, List.setIfInBounds_toArray, List.set_cons_zero, List.set_cons_succ]
            refine take_to (some 273) (i := 35) (v := .pointer (some ⟨b, o + k * 9 + 1, none⟩)) rfl rfl (by kernel_rfl) (by kernel_rfl) (by kernel_rfl) (fun _ _ _ h => h) (Or.inl ⟨by kernel_rfl, by intro u hSu; go_simp⟩) hs ?_
            simp only [Act.put, List.setIfInBounds_toArray, List.set_cons_zero, List.set_cons_succ]
            refine take_to (some 274) (i := 36) (v := .agg #[.int .i64 pk1, V pg1, V ps1, V pq1, V pp1]) rfl rfl (by kernel_rfl) (by kernel_rfl) (by kernel_rfl) (fun _ _ _ h => h) (Or.inl ⟨by kernel_rfl, by intro u hSu; obtain ⟨y0, y1, y2, y3, y4, y5, y6, y7, y8⟩ := hSu.x; simp only at y0 y1 y2 y3 y4 y5 y6 y7 y8; go_simp⟩) hs ?_
            simp only [Act.put, List.setIfInBounds_toArray, List.set_cons_zero, List.set_cons_succ]
            refine take_to (some 275) (i := 37) (v := .pointer (some ⟨B + 1, 8, none⟩)) rfl rfl (by kernel_rfl) (by kernel_rfl) (by kernel_rfl) (fun _ _ _ h => h) (Or.inl ⟨by kernel_rfl, by intro u hSu; go_simp⟩) hs ?_
            simp only [Act.put, List.setIfInBounds_toArray, List.set_cons_zero, List.set_cons_succ]
            refine take_to (some 276) (i := 38) (v := .agg #[V rt, V ri, V rc]) rfl rfl (by kernel_rfl) (by kernel_rfl) (by kernel_rfl) (fun _ _ _ h => h) (Or.inl ⟨by kernel_rfl, by intro u hSu; have q0 := hSu.r0; have q1 := hSu.r1; have q2 := hSu.r2; go_simp⟩) hs ?_
            simp only [Act.put, List.setIfInBounds_toArray, List.set_cons_zero, List.set_cons_succ]
            refine take_to (some 277) (i := 39) (v := .pointer (some ⟨B, 2, none⟩)) rfl rfl (by kernel_rfl) (by kernel_rfl) (by kernel_rfl) (fun _ _ _ h => h) (Or.inl ⟨by kernel_rfl, by intro u hSu; go_simp⟩) hs ?_
            simp only [Act.put, List.setIfInBounds_toArray, List.set_cons_zero, List.set_cons_succ]
            refine take_to (some 278) (i := 40) (v := .slice (some ⟨b, o, none⟩) N c0) rfl rfl (by kernel_rfl) (by kernel_rfl) (by kernel_rfl) (fun _ _ _ h => h) (Or.inl ⟨by kernel_rfl, by intro u hSu; have q := hSu.s; go_simp⟩) hs ?_
            simp only [Act.put, List.setIfInBounds_toArray, List.set_cons_zero, List.set_cons_succ]
            refine take_to (some 279) (i := 41) (v := .int .i64 (k : Int)) rfl rfl (by kernel_rfl) (by kernel_rfl) (by kernel_rfl) (fun _ _ _ h => h) (Or.inl ⟨by kernel_rfl, by intro u hSu; go_simp⟩) hs ?_
            simp only [Act.put, List.setIfInBounds_toArray, List.set_cons_zero, List.set_cons_succ]
            refine take_to (some 280) (i := 42) (v := .pointer (some ⟨b, o + k * 9, none⟩)) rfl rfl (by kernel_rfl) (by kernel_rfl) (by kernel_rfl) (fun _ _ _ h => h) (Or.inl ⟨by kernel_rfl, by intro u hSu; go_simp⟩) hs ?_
            simp only [Act.put, List.setIfInBounds_toArray, List.set_cons_zero, List.set_cons_succ]
            refine take_to (some 281) (i := 43) (v := .pointer (some ⟨b, o + k * 9 + 6, none⟩)) rfl rfl (by kernel_rfl) (by kernel_rfl) (by kernel_rfl) (fun _ _ _ h => h) (Or.inl ⟨by kernel_rfl, by intro u hSu; go_simp⟩) hs ?_
            simp only [Act.put, List.setIfInBounds_toArray, List.set_cons_zero, List.set_cons_succ]
            refine take_to (some 282) (i := 44) (v := .agg #[V lt1, V li1, V lc1]) rfl rfl (by kernel_rfl) (by kernel_rfl) (by kernel_rfl) (fun _ _ _ h => h) (Or.inl ⟨by kernel_rfl, by intro u hSu; obtain ⟨y0, y1, y2, y3, y4, y5, y6, y7, y8⟩ := hSu.x; simp only at y0 y1 y2 y3 y4 y5 y6 y7 y8; go_simp⟩) hs ?_
            simp only [Act.put, List.setIfInBounds_toArray, List.set_cons_zero, List.set_cons_succ]
            refine wpAnyH_ready (rs := [45]) (by kernel_rfl) (by simp) ?_
            refine AllReadyH.cons rfl (fun K hK => ?_) AllReadyH.nil
            go_simp
            refine (HCV.out _).mono ?_
            rintro e w9 ⟨rfl, u9⟩
            replace U := U.trans u9
            replace hs := hs.up u9
            refine hK.out _ _ hs (fun _ => ?_)
            clear hK K
            refine take_to (some 284) (i := 46) (v := .bool true) rfl rfl (by kernel_rfl) (by kernel_rfl) (by kernel_rfl) (fun _ _ _ h => h) (Or.inl ⟨by kernel_rfl, by intro u hSu; go_simp⟩) hs ?_
            simp only [Act.put, List.setIfInBounds_toArray, List.set_cons_zero, List.set_cons_succ]
            refine take_to (some 4) (i := 47) (v := .bool true) rfl rfl (by kernel_rfl) (by kernel_rfl) (by kernel_rfl) (fun _ _ _ h => h) (Or.inl ⟨by kernel_rfl, by intro u hSu; go_simp⟩) hs ?_
            simp only [Act.put, List.setIfInBounds_toArray, List.set_cons_zero, List.set_cons_succ]
            refine wpAnyH_done (by kernel_rfl) ?_ _
            go_wp2
            go_ret
            exact ⟨rfl, U⟩
end Go.Proofs.YtffldmeocmemeaaDoor

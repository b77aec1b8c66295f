/- Merged: ImIn, ImIn2, ImDec. -/
import Derived.Test.YtooclofdljampaaDoorImState
import Derived.Test.YtooclofdljampaaDoorImSum
import Derived.Test.YtooclofdljampaaDoorMiC
import Derived.Defers
import Derived.Recover
import Derived.Laws.Pointers
import Derived.Stop.Asserts
set_option linter.unusedVariables false
set_option linter.unusedSimpArgs false
namespace Go.Proofs.YtooclofdljampaaDoor
open Go Go.RowKit

set_option maxRecDepth 20000 in
set_option maxHeartbeats 1600000 in
theorem takeState_many {B : Nat} {w : World} {r : Nat} {aS aF : Addr} {l f N : Nat} {st s1 s2 s3 : Option (List UInt8)} (h : RdS B w r aS aF st) (e1 : rdA 8 st = (l, s1)) (e2 : rdA 8 s1 = (f, s2)) (e3 : rdA 4 s2 = (N, s3)) (hN : 4096 < N) :
    Calls Tryd.prog 30 #[.pointer (some ⟨r, 0, none⟩)] w fun e w' => e = Pan aF ∧ But r w w' := by
  have k1 : ∀ u, RdS B u r aS aF st → Calls Tryd.prog 46 #[.pointer (some ⟨r, 0, none⟩)] u fun e w' => e = .returned (V l) ∧ RdS B w' r aS aF s1 ∧ But r u w' := fun u hu => by
    have := U64_S hu; rw [e1] at this; exact this
  have k2 : ∀ u, RdS B u r aS aF s1 → Calls Tryd.prog 46 #[.pointer (some ⟨r, 0, none⟩)] u fun e w' => e = .returned (V f) ∧ RdS B w' r aS aF s2 ∧ But r u w' := fun u hu => by
    have := U64_S hu; rw [e2] at this; exact this
  have k3 : ∀ u, RdS B u r aS aF s2 → Calls Tryd.prog 47 #[.pointer (some ⟨r, 0, none⟩)] u fun e w' => e = .returned (.int .u32 (N : Nat)) ∧ RdS B w' r aS aF s3 ∧ But r u w' := fun u hu => by
    have := U32_S hu; rw [e3] at this; exact this
  have hN1 : (4096 : Int) < (N : Int) := by omega
  clear e1 e2 e3
  have u0 : Up w (w.alloc (.cells #[V 0, V 0, .slice none 0 0] 29)) := Up.alloc _ _
  have hA : RdS B (w.alloc (.cells #[V 0, V 0, .slice none 0 0] 29)) r aS aF st := h.below (u0.mono h.sz)
  have g0 := But.of_up r u0
  go_enter Tryd.func30, Tryd.ntmps30
  go_wp2_with fail
  refine (k1 _ hA).mono ?_
  rintro e w1 ⟨rfl, h1, g1⟩
  go_wp2_with fail
  refine (k2 _ h1).mono ?_
  rintro e w2 ⟨rfl, h2, g2⟩
  have gA := (g0.trans g1).trans g2
  have u3 : Up w2 (w2.alloc (.cells #[V l, V f, .slice none 0 0] 29)) := Up.alloc _ _
  have h3 := h2.below (u3.mono h2.sz)
  go_wp2_with fail
  refine (k3 _ h3).mono ?_
  rintro e w4 ⟨rfl, h4, g4⟩
  have gB := (gA.trans (But.of_up r u3)).trans g4
  have cF := h4.gf.cell
  clear h1 h2 h3 g1 g2 g4 gA g0 u0 u3 hA k1 k2 k3
  go_wp2_with fail
  refine (giveUp_any aF _).mono ?_
  rintro e w7 ⟨rfl, rfl⟩
  exact ⟨rfl, rfl, gB⟩

theorem rdA_take (n : Nat) (bs : List UInt8) (h : n ≤ bs.length) : rdA n (some bs) = (lb (bs.take n), some (bs.drop n)) := by
  unfold rdA
  simp only
  rw [if_neg (by omega)]
theorem takeState_any {B : Nat} {w : World} {r : Nat} {aS aF : Addr} {bs : List UInt8} (h : RdS B w r aS aF (some bs)) (hl : 20 ≤ bs.length) :
    Calls Tryd.prog 30 #[.pointer (some ⟨r, 0, none⟩)] w fun e w' => TsE w.heap.size w' aS aF e (innD bs) ∧ But r w w' := by
  have e1 := rdA_take 8 bs (by omega)
  have e2 := rdA_take 8 (bs.drop 8) (by rw [List.length_drop]; omega)
  have e3 := rdA_take 4 (bs.drop 16) (by rw [List.length_drop]; omega)
  rw [List.drop_drop] at e2 e3
  by_cases hN : 4096 < lb ((bs.drop 16).take 4)
  · refine (takeState_many h e1 e2 e3 hN).mono ?_
    rintro e w' ⟨rfl, g⟩
    refine ⟨?_, g⟩
    unfold innD
    rw [if_pos hN]
    rfl
  · rw [innD_fin bs hN]
    exact takeState_rows h e1 e2 e3 (by omega)

theorem inside_short {base : Nat} {v : Value} {bs : List UInt8} {w : World} {aS : Addr} (hs : Sl base w v bs) (hg : Gl w 1 aS) (hl : bs.length < 28) :
    Calls Tryd.prog 32 #[v] w fun e w' => e = Pan aS ∧ w' = w := by
  obtain ⟨ao, cap, rfl, _⟩ := hs
  have hc := hg.cell
  generalize bs.length = N at hl ⊢
  have h1 : (N : Int) < 28 := by omega
  go_enter Tryd.func32, Tryd.ntmps32
  go_wp2_with fail
  refine (giveUp_any aS _).mono ?_
  rintro e w1 ⟨rfl, rfl⟩
  exact ⟨rfl, rfl, rfl⟩
theorem mrk_str (bs : List UInt8) : ((⟨bs.toArray⟩ : ByteArray) = ⟨#[84, 73, 48, 49]⟩) ↔ bs = mrk := by
  constructor
  · intro h
    have := congrArg (fun b : ByteArray => b.data.toList) h
    simpa [mrk] using this
  · rintro rfl; rfl
theorem mrk_list : (⟨#[84, 73, 48, 49]⟩ : ByteArray).toList = ([84, 73, 48, 49] : List UInt8) := by rw [Lib.toList_data]
set_option maxRecDepth 20000 in
set_option maxHeartbeats 800000 in
theorem inside_form {base : Nat} {v : Value} {bs : List UInt8} {w : World} {aF : Addr} (hs : Sl base w v bs) (hg : Gl w 2 aF) (hl : 28 ≤ bs.length) (hm : bs.take 4 ≠ mrk) (hlt : bs.length ≤ 140737488355328) :
    Calls Tryd.prog 32 #[v] w fun e w' => e = Pan aF ∧ w' = w := by
  obtain ⟨v4, s4, _, r4, _⟩ := sl_cut hs 0 4 (by omega) (by omega)
  replace r4 : ∀ u, (Instr.slice 30 v none (some (.int .i64 4)) none).run Tryd.prog u = .ok v4 u := r4 rfl
  have t4 := sl_stringP (P := fun b => base ≤ b) s4
  rw [List.drop_zero] at t4
  have hq : ((⟨(bs.take (4 - 0)).toArray⟩ : ByteArray).toList == ([84, 73, 48, 49] : List UInt8)) = false := by rw [← mrk_list]; exact beq_ne (fun e => hm ((mrk_str _).1 e))
  generalize (⟨(bs.take (4 - 0)).toArray⟩ : ByteArray) = S at t4 hq
  obtain ⟨ao, cap, rfl, _⟩ := hs
  have hc := hg.cell
  clear s4 hm
  generalize bs.length = N at hl hlt r4 ⊢
  have h1 : ¬ (N : Int) < 28 := by omega
  have h2 : (N : Int) ≤ 140737488355328 := by omega
  go_enter Tryd.func32, Tryd.ntmps32
  go_wp2_with fail
  refine (giveUp_any aF _).mono ?_
  rintro e w1 ⟨rfl, rfl⟩
  exact ⟨rfl, rfl, rfl⟩
end Go.Proofs.YtooclofdljampaaDoor

set_option linter.unusedVariables false
set_option linter.unusedSimpArgs false
namespace Go.Proofs.YtooclofdljampaaDoor
open Go Go.RowKit

theorem But.upI {r : Nat} {w0 w w' : World} (h : But r w w') (hu : Up w0 w) (hr : w0.heap.size ≤ r) : Up w0 w' := Below.trans hu (h.below hr hu.size)
theorem whole4 (TL : List UInt8) : wholeA 4 TL .nilIface = (rdA 4 (some TL)).1 := by
  simp only [wholeA, rdA]
  by_cases hn : TL.length < 4
  · rw [if_neg (by omega), if_pos hn]
  · rw [if_pos (by omega), if_neg hn, unle_lbR]
set_option maxRecDepth 20000 in
set_option maxHeartbeats 3200000 in
theorem inside_sum {base : Nat} {v : Value} {bs : List UInt8} {w : World} {aS aU : Addr} {q : Bool} (hs : Sl base w v bs) (hgS : Gl w 1 aS) (hgU : Gl w 3 aU) (ht : Tb w) (hl : 28 ≤ bs.length) (hm : bs.take 4 = mrk) (hlt : bs.length ≤ 140737488351232)
    (hsum : ((lb (bs.drop (bs.length - 4)) : Int) != ((sumC (bs.take (bs.length - 4))).toNat : Int)) = q) :
    Calls Tryd.prog 32 #[v] w fun e w' => (if q = true then e = Pan aU else ∃ v', e = .returned v' ∧ Sl base w' v' ((bs.take (bs.length - 4)).drop 4)) ∧ Up w w' := by
  obtain ⟨v4, s4, _, r4, _⟩ := sl_cut hs 0 4 (by omega) (by omega)
  replace r4 : ∀ u, (Instr.slice 30 v none (some (.int .i64 4)) none).run Tryd.prog u = .ok v4 u := r4 rfl
  have t4 := sl_stringP (P := fun b => base ≤ b) s4
  have hq : ((⟨((bs.drop 0).take (4 - 0)).toArray⟩ : ByteArray).toList == ([84, 73, 48, 49] : List UInt8)) = true := by
    rw [← mrk_list, (mrk_str ((bs.drop 0).take (4 - 0))).2 (by rw [List.drop_zero]; exact hm)]; simp
  generalize (⟨((bs.drop 0).take (4 - 0)).toArray⟩ : ByteArray) = S at t4 hq
  obtain ⟨E, hE⟩ : ∃ E, bs.length = E + 4 := ⟨bs.length - 4, by omega⟩
  have hE4 : bs.length - 4 = E := by omega
  obtain ⟨v5, s5, _, _, r5⟩ := sl_cut hs E bs.length (by omega) (Nat.le_refl _)
  replace r5 := r5 rfl
  obtain ⟨v6, s6, _, r6, _⟩ := sl_cut hs 0 E (by omega) (by omega)
  replace r6 := r6 rfl
  obtain ⟨v7, s7, r7, _, _⟩ := sl_cut hs 4 E (by omega) (by omega)
  replace r7 : ∀ u, (Instr.slice 30 v (some (.int .i64 4)) (some (.int .i64 (E : Int))) none).run Tryd.prog u = .ok v7 u := r7
  have e5 : (bs.drop E).take (bs.length - E) = bs.drop (bs.length - 4) := by
    rw [hE4, List.take_of_length_le (by rw [List.length_drop]; omega)]
  have e6 : (bs.drop 0).take (E - 0) = bs.take (bs.length - 4) := by rw [hE4, List.drop_zero, Nat.sub_zero]
  have e7 : (bs.drop 4).take (E - 4) = (bs.take (bs.length - 4)).drop 4 := by rw [hE4, List.drop_take]
  rw [e5] at s5
  rw [e6] at s6
  rw [e7] at s7
  have l5 : (bs.drop (bs.length - 4)).length = 4 := by rw [List.length_drop]; omega
  have l6 : (bs.take (bs.length - 4)).length = E := by rw [List.length_take]; omega
  clear e5 e6 e7 s4
  have HS : Hid (Sl base w v7 ((bs.take (bs.length - 4)).drop 4)) := s7
  have hd := rdA_take 4 (bs.drop (bs.length - 4)) (by omega)
  rw [List.take_of_length_le (by omega)] at hd
  have HN : Hid (∀ u (k : Up w u), Calls Tryd.prog 31 #[v5] u fun e w' => ∃ r, e = .returned (.pointer (some ⟨r, 0, none⟩)) ∧ u.heap.size ≤ r ∧ Rdr u.heap.size w' r (bs.drop (bs.length - 4)) .nilIface ∧ Up u w') := fun u k => NewReader_any base v5 (bs.drop (bs.length - 4)) u (s5.up k) (by omega)
  generalize (bs.take (bs.length - 4)).drop 4 = INN at HS ⊢
  obtain ⟨ZS, hZ⟩ : ∃ ZS, sumC (bs.take (bs.length - 4)) = ZS := ⟨_, rfl⟩
  have HU : Hid (∀ u (k : Up w u), Calls Tryd.prog 27 #[v6] u fun e w' => e = .returned (U ZS) ∧ w' = u) := fun u k => by
    have := Sum_any base v6 (bs.take (bs.length - 4)) u (ht.up k) (s6.up k) (by omega)
    rw [hZ] at this
    exact this
  rw [hZ] at hsum
  obtain ⟨LB, hLB⟩ : ∃ LB, lb (bs.drop (bs.length - 4)) = LB := ⟨_, rfl⟩
  rw [hLB] at hsum hd
  generalize bs.drop (bs.length - 4) = TL at HN hd
  have HD : Hid (wholeA 4 TL .nilIface = LB) := by show _ = _; rw [whole4, hd]
  obtain ⟨ao, cap, rfl, _⟩ := hs
  rw [hE] at r4 r5 r6 r7 ⊢
  have h1 : ¬ ((E : Int) + 4 < 28) := by omega
  have h2 : (E : Int) ≤ 140737488355328 := by omega
  have g1 : (24 : Int) ≤ (E : Int) := by omega
  have HG : Hid (Gl w 1 aS ∧ Gl w 3 aU) := ⟨hgS, hgU⟩
  clear hm hd s5 s6 s7 ht hZ hLB l5 l6 hE hE4 hl hlt hgS hgU
  go_enter Tryd.func32, Tryd.ntmps32
  go_upto_region 6 with fail
  have U0 := Up.drew w
  refine wp_region_held_drew (S := fun _ => True) (by kernel_rfl) trivial (fun hs0 => ?_)
  clear hs0 t4
  generalize w.drew = wd at *
  refine take_to (some 18) (i := 0) (v := .slice ao (E + 4) cap) rfl rfl (by kernel_rfl) (by kernel_rfl) (by kernel_rfl) (fun _ _ _ h => h) (Or.inl ⟨by kernel_rfl, by intro u hSu; go_simp⟩) trivial ?_
  simp only [Act.put, List.setIfInBounds_toArray, List.set_cons_zero, List.set_cons_succ]
  refine take_to (some 19) (i := 1) (v := .int .i64 (E : Int)) rfl rfl (by kernel_rfl) (by kernel_rfl) (by kernel_rfl) (fun _ _ _ h => h) (Or.inl ⟨by kernel_rfl, by intro u hSu; go_simp⟩) trivial ?_
  simp only [Act.put, List.setIfInBounds_toArray, List.set_cons_zero, List.set_cons_succ]
  refine take_to (some 20) (i := 2) (v := v5) rfl rfl (by kernel_rfl) (by kernel_rfl) (by kernel_rfl) (fun _ _ _ h => h) (Or.inl ⟨by kernel_rfl, by intro u hSu; go_simp⟩) trivial ?_
  simp only [Act.put, List.setIfInBounds_toArray, List.set_cons_zero, List.set_cons_succ]
  refine take_to (some 23) (i := 5) (v := .slice ao (E + 4) cap) rfl rfl (by kernel_rfl) (by kernel_rfl) (by kernel_rfl) (fun _ _ _ h => h) (Or.inl ⟨by kernel_rfl, by intro u hSu; go_simp⟩) trivial ?_
  simp only [Act.put, List.setIfInBounds_toArray, List.set_cons_zero, List.set_cons_succ]
  refine take_to (some 24) (i := 6) (v := .int .i64 (E : Int)) rfl rfl (by kernel_rfl) (by kernel_rfl) (by kernel_rfl) (fun _ _ _ h => h) (Or.inl ⟨by kernel_rfl, by intro u hSu; go_simp⟩) trivial ?_
  simp only [Act.put, List.setIfInBounds_toArray, List.set_cons_zero, List.set_cons_succ]
  refine take_to (some 25) (i := 7) (v := v6) rfl rfl (by kernel_rfl) (by kernel_rfl) (by kernel_rfl) (fun _ _ _ h => h) (Or.inl ⟨by kernel_rfl, by intro u hSu; go_simp⟩) trivial ?_
  simp only [Act.put, List.setIfInBounds_toArray, List.set_cons_zero, List.set_cons_succ]
  refine wpAnyH_ready (rs := [3]) (by kernel_rfl) (by simp) ?_
  refine AllReadyH.cons rfl (fun K hK => ?_) AllReadyH.nil
  go_simp
  refine (HN.out _ U0).mono ?_
  rintro e w1 ⟨r, rfl, hz, hr, u1⟩
  have hgS := (HG.out.1.up U0).up u1
  refine hK.out _ _ trivial (fun _ => ?_)
  clear hK K
  refine wpAnyH_ready (rs := [4]) (by kernel_rfl) (by simp) ?_
  refine AllReadyH.cons rfl (fun K hK => ?_) AllReadyH.nil
  go_simp
  refine (U32_anyP _ r _ .nilIface aS w1 hr.pR (.inl rfl) hgS).mono ?_
  rintro e w2 ⟨rfl, k1, k2⟩
  rw [HD.out]
  have U2 : Up w w2 := k2.upI (U0.trans u1) (by have := U0.size; omega)
  clear k1 k2 hr u1 hgS
  refine hK.out _ _ trivial (fun _ => ?_)
  clear hK K
  refine wpAnyH_ready (rs := [8]) (by kernel_rfl) (by simp) ?_
  refine AllReadyH.cons rfl (fun K hK => ?_) AllReadyH.nil
  go_simp
  refine (HU.out _ U2).mono ?_
  rintro e w3 ⟨rfl, rfl⟩
  refine hK.out _ _ trivial (fun _ => ?_)
  clear hK K
  refine take_to (some 27) (i := 9) (v := .bool q) rfl rfl (by kernel_rfl) (by kernel_rfl) (by kernel_rfl) (fun _ _ _ h => h) (Or.inl ⟨by kernel_rfl, by intro u hSu; go_simp⟩) trivial ?_
  simp only [Act.put, List.setIfInBounds_toArray, List.set_cons_zero, List.set_cons_succ]
  refine wpAnyH_done (by kernel_rfl) ?_ _
  have hgU := (HG.out.2.up U2).cell
  cases q with
  | true =>
    go_wp2_with fail
    refine (giveUp_any aU _).mono ?_
    rintro e w4 ⟨rfl, rfl⟩
    refine ⟨rfl, ?_, U2⟩
    rw [if_pos rfl]
  | false =>
    go_wp2
    go_ret
    exact ⟨⟨_, rfl, HS.out.up U2⟩, U2⟩
end Go.Proofs.YtooclofdljampaaDoor

set_option linter.unusedVariables false
set_option linter.unusedSimpArgs false
namespace Go.Proofs.YtooclofdljampaaDoor
open Go Go.RowKit

abbrev FV (a : Addr) : Value := .iface 66 (.agg #[E a])
theorem assert_fault (a : Addr) (u : World) : (Instr.typeAssert (FV a) 20 66 false).run Tryd.prog u = .ok (.agg #[E a]) u := by
  simp [Instr.typeAssert, run_underlying Tryd.underlying66]
theorem field_fault (a : Addr) (u : World) : (Instr.field 66 (.agg #[E a]) 0).run Tryd.prog u = .ok (E a) u := by
  simp [Instr.field, run_underlying Tryd.underlying66, part, asAgg, go_sem]
set_option maxRecDepth 20000 in
set_option maxHeartbeats 1600000 in
theorem catch_fault (k1 k2 : Nat) (c0 c1 c2 d0 : Value) (a : Addr) (w : World) (h1 : Box w k1 #[c0, c1, c2]) (h2 : Box w k2 #[d0]) (hne : k1 ≠ k2) (older : List PanicEntry) :
    CallsD Tryd.prog 29 #[.pointer (some ⟨k1, 0, none⟩), .pointer (some ⟨k2, 0, none⟩)] (.panicking ({ v := FV a, recovered := false } :: older)) w fun e u' w' =>
      e = .returned (.tuple #[]) ∧ u' = .panicking ({ v := FV a, recovered := true } :: older) ∧ Box w' k1 #[V 0, V 0, .slice none 0 0] ∧ Box w' k2 #[E a] ∧ Touch w w' [k1, k2] := by
  refine callsD_of_wpS Tryd.func29 rfl fun c₀ cs hu => ?_
  apply wpS_seq
  apply wpS_region
  simp [wpOpsS, go_sem, recoverD, hu, Tryd.ntmps29, Exit.thenS]
  refine wpS_of_wp ?_
  show Code.wp _ _ _ { tmps := #[.pointer (some ⟨k1, 0, none⟩), .pointer (some ⟨k2, 0, none⟩), FV a, FV a, undef, undef, undef, undef, undef, undef], defers := [] } w
  have hta := assert_fault a
  have hfl := field_fault a
  have hb1 : Box w.drew k1 #[c0, c1, c2] := h1.drew
  have hb2 : Box w.drew k2 #[d0] := h2.drew
  have ht : Touch w w.drew [k1, k2] := (Touch.refl w [k1, k2]).drew
  go_upto_region 2 with fail
  refine wp_region_held_drew (S := fun _ => True) (by kernel_rfl) trivial (fun hs0 => ?_)
  clear hs0
  generalize w.drew = wd at *
  refine take_to (some 6) (i := 0) (v := .agg #[V 0, V 0, .slice none 0 0]) rfl rfl (by kernel_rfl) (by kernel_rfl) (by kernel_rfl) (fun _ _ _ h => h) (Or.inl ⟨by kernel_rfl, by intro u hSu; go_simp⟩) trivial ?_
  simp only [Act.put, List.setIfInBounds_toArray, List.set_cons_zero, List.set_cons_succ]
  refine take_to (some 7) (i := 1) (v := FV a) rfl rfl (by kernel_rfl) (by kernel_rfl) (by kernel_rfl) (fun _ _ _ h => h) (Or.inl ⟨by kernel_rfl, by intro u hSu; go_simp⟩) trivial ?_
  simp only [Act.put, List.setIfInBounds_toArray, List.set_cons_zero, List.set_cons_succ]
  refine take_to (some 8) (i := 2) (v := .agg #[E a]) rfl rfl (by kernel_rfl) (by kernel_rfl) (by kernel_rfl) (fun _ _ _ h => h) (Or.inl ⟨by kernel_rfl, by intro u hSu; go_simp⟩) trivial ?_
  simp only [Act.put, List.setIfInBounds_toArray, List.set_cons_zero, List.set_cons_succ]
  refine take_to (some 9) (i := 3) (v := E a) rfl rfl (by kernel_rfl) (by kernel_rfl) (by kernel_rfl) (fun _ _ _ h => h) (Or.inl ⟨by kernel_rfl, by intro u hSu; go_simp⟩) trivial ?_
  simp only [Act.put, List.setIfInBounds_toArray, List.set_cons_zero, List.set_cons_succ]
  refine wpAnyH_ready (rs := [4]) (by kernel_rfl) (by simp) ?_
  refine AllReadyH.cons rfl (fun K hK => ?_) AllReadyH.nil
  obtain ⟨q0, q1, q2⟩ := hb1.c3
  have f1 := hb1.frozen
  go_simp
  refine hK.out _ _ trivial (fun _ => ?_)
  clear hK K
  have b3 := hb1.set3 (x := V 0) (y := V 0) (z := .slice none 0 0)
  have d3 := ((hb2.other hne.symm 0 (V 0)).other hne.symm 1 (V 0)).other hne.symm 2 (.slice none 0 0)
  have t3 := ((ht.setCell (k := k1) (.inl (by simp)) 0 (V 0)).setCell (k := k1) (.inl (by simp)) 1 (V 0)).setCell (k := k1) (.inl (by simp)) 2 (.slice none 0 0)
  clear q0 q1 q2 f1
  generalize World.setCell _ _ _ = w3 at *
  refine wpAnyH_ready (rs := [5]) (by kernel_rfl) (by simp) ?_
  refine AllReadyH.cons rfl (fun K hK => ?_) AllReadyH.nil
  have q0 : w3.cell? ⟨k2, 0, none⟩ = some d0 := d3.cell 0
  have f2 := d3.frozen 0
  go_simp
  refine hK.out _ _ trivial (fun _ => ?_)
  clear hK K
  refine wpAnyH_done (by kernel_rfl) ?_ _
  exact ⟨rfl, _, rfl, _, by simp [results, Tryd.results29, go_sem], rfl, rfl, b3.other hne 0 (E a), d3.set 0 (E a), t3.setCell (k := k2) (.inl (by simp)) 0 (E a)⟩

set_option maxRecDepth 20000 in
theorem catch_idle (k1 k2 : Nat) (w : World) :
    CallsD Tryd.prog 29 #[.pointer (some ⟨k1, 0, none⟩), .pointer (some ⟨k2, 0, none⟩)] .returning w fun e u' w' => e = .returned (.tuple #[]) ∧ u' = .returning ∧ w' = w := by
  refine callsD_of_wpS Tryd.func29 rfl fun c₀ cs hu => ?_
  apply wpS_seq
  apply wpS_region
  simp [wpOpsS, go_sem, recoverD, hu, Tryd.ntmps29, Exit.thenS]
  refine wpS_of_wp ?_
  show Code.wp _ _ _ { tmps := #[.pointer (some ⟨k1, 0, none⟩), .pointer (some ⟨k2, 0, none⟩), .nilIface, .nilIface, undef, undef, undef, undef, undef, undef], defers := [] } w
  go_wp2
  exact ⟨rfl, _, by cases c₀; simp_all, _, by simp [results, Tryd.results29, go_sem], rfl, rfl, rfl⟩

abbrev S0 : Value := .agg #[V 0, V 0, .slice none 0 0]

set_option maxRecDepth 20000 in
set_option maxHeartbeats 1600000 in
theorem Decode_no1 {v : Value} {w : World} {a : Addr} (hs : ∃ b n c, v = .slice b n c) (hin : ∀ u, Up w u → Calls Tryd.prog 32 #[v] u fun e w' => e = Pan a ∧ Up u w') :
    Calls Tryd.prog 16 #[v] w fun e w' => e = .returned (.tuple #[S0, E a]) ∧ Up w w' := by
  obtain ⟨b, n, c, rfl⟩ := hs
  have hmf : ∀ (fn : Fn) (first cap : Array Value) (w : World), (Instr.makeFunc fn first cap).run Tryd.prog w = .ok (.func fn first cap) w := fun _ _ _ _ => rfl
  have u1 : Up w (w.alloc (.cells #[V 0, V 0, .slice none 0 0] 29)) := Up.alloc _ _
  have b1 : Box (w.alloc (.cells #[V 0, V 0, .slice none 0 0] 29)) w.heap.size #[V 0, V 0, .slice none 0 0] := Box.new _ _ _
  have z1 : (w.alloc (.cells #[V 0, V 0, .slice none 0 0] 29)).heap.size = w.heap.size + 1 := by simp
  have b2 : Box ((w.alloc (.cells #[V 0, V 0, .slice none 0 0] 29)).alloc (.cells #[.nilIface] 35)) (w.heap.size + 1) #[.nilIface] := Box.newAt z1
  have u2 : Up w ((w.alloc (.cells #[V 0, V 0, .slice none 0 0] 29)).alloc (.cells #[.nilIface] 35)) := u1.trans (Up.alloc _ _)
  replace b1 := b1.alloc (.cells #[.nilIface] 35)
  clear u1 z1
  go_enter_defers Tryd.func16, Tryd.ntmps16
  go_upto_region 2 with fail
  generalize (w.alloc (.cells #[V 0, V 0, .slice none 0 0] 29)).alloc (.cells #[.nilIface] 35) = w0 at *
  go_wp2_with fail
  refine (hin _ u2).mono ?_
  rintro e w1 ⟨rfl, u3⟩
  have U3 := u2.trans u3
  have B1 := b1.up u3
  have B2 := b2.up u3
  clear b1 b2 u2 u3 hin
  refine leaves_cons (f := 29) (args := #[.pointer (some ⟨w.heap.size, 0, none⟩), .pointer (some ⟨w.heap.size + 1, 0, none⟩)]) (by simp) (by simp [go_sem]) ?_
  refine (catch_fault w.heap.size (w.heap.size + 1) _ _ _ _ a w1 B1 B2 (by omega) []).mono ?_
  rintro e u' w'' ⟨rfl, rfl, d1, d2, t⟩
  obtain ⟨q0, q1, q2⟩ := d1.c3
  have q3 : w''.cell? ⟨w.heap.size + 1, 0, none⟩ = some (E a) := d2.cell 0
  have hU : Up w w'' := Below.trans U3 (t.below (fun j hj => by simp only [List.mem_cons, List.not_mem_nil, or_false] at hj; omega) U3.size)
  simp [Leaves, settle, results, Tryd.results16, go_sem, q0, q1, q2, q3]
  exact hU

/-- What Decode answers. -/
def DecP (base : Nat) (w' : World) (aS aF aU : Addr) (e : Ending) : Except ImE StV → Prop
  | .error .short => e = .returned (.tuple #[S0, E aS])
  | .error .form => e = .returned (.tuple #[S0, E aF])
  | .error .sum => e = .returned (.tuple #[S0, E aU])
  | .ok s => ∃ vk, e = .returned (.tuple #[.agg #[V s.lsn, V s.floor, vk], .nilIface]) ∧ OwnE w' base vk s.keys
theorem entD_sum {bs : List UInt8} : entD bs ≠ .error .sum := by
  unfold entD
  simp only
  split
  · simp
  · split
    · split <;> simp
    · split
      · split <;> simp
      · simp
theorem rowsD_sum : ∀ (n : Nat) (bs : List UInt8), rowsD n bs ≠ .error .sum
  | 0, bs => by simp [rowsD]
  | n + 1, bs => by
    rw [rowsD]
    cases h : entD bs with
    | error e =>
      intro q
      simp only [Except.error.injEq] at q
      subst q
      exact entD_sum h
    | ok p =>
      obtain ⟨x, r⟩ := p
      simp only
      cases h2 : rowsD n r with
      | error e =>
        intro q
        simp only [Except.error.injEq] at q
        subst q
        exact rowsD_sum n r h2
      | ok p => simp
theorem innD_sum (bs : List UInt8) : innD bs ≠ .error .sum := by
  unfold innD
  split
  · simp
  · cases h : rowsD (lb ((bs.drop 16).take 4)) (bs.drop 20) with
    | error e =>
      intro q
      simp only [Except.error.injEq] at q
      subst q
      exact rowsD_sum _ _ h
    | ok p =>
      obtain ⟨x, r⟩ := p
      simp only
      split <;> simp

set_option maxRecDepth 20000 in
set_option maxHeartbeats 3200000 in
theorem Decode_go {base : Nat} {v : Value} {w : World} {aS aF aU : Addr} {INN : List UInt8} (hs : ∃ b n c, v = .slice b n c) (gS : Gl w 1 aS) (gF : Gl w 2 aF) (hl : 20 ≤ INN.length) (hl2 : INN.length ≤ 140737488351232)
    (hin : ∀ u, Up w u → Calls Tryd.prog 32 #[v] u fun e w' => (∃ v', e = .returned v' ∧ Sl base w' v' INN) ∧ Up u w') :
    Calls Tryd.prog 16 #[v] w fun e w' => DecP w.heap.size w' aS aF aU e (innD INN) ∧ Up w w' := by
  obtain ⟨b, n, c, rfl⟩ := hs
  obtain ⟨D, hD⟩ : ∃ D, innD INN = D := ⟨_, rfl⟩
  have hns := innD_sum INN
  have hts := fun {B : Nat} {u : World} {r : Nat} (h : RdS B u r aS aF (some INN)) => takeState_any h hl
  rw [hD] at hns hts ⊢
  have HTS : Hid (∀ {B : Nat} {u : World} {r : Nat} (h : RdS B u r aS aF (some INN)), Calls Tryd.prog 30 #[.pointer (some ⟨r, 0, none⟩)] u fun e w' => TsE u.heap.size w' aS aF e D ∧ But r u w') := hts
  have HG : Hid (Gl w 1 aS ∧ Gl w 2 aF) := ⟨gS, gF⟩
  have HL : Hid (INN.length ≤ 140737488351232) := hl2
  clear hts hD gS gF hl hl2
  have hmf : ∀ (fn : Fn) (first cap : Array Value) (w : World), (Instr.makeFunc fn first cap).run Tryd.prog w = .ok (.func fn first cap) w := fun _ _ _ _ => rfl
  have u1 : Up w (w.alloc (.cells #[V 0, V 0, .slice none 0 0] 29)) := Up.alloc _ _
  have b1 : Box (w.alloc (.cells #[V 0, V 0, .slice none 0 0] 29)) w.heap.size #[V 0, V 0, .slice none 0 0] := Box.new _ _ _
  have z1 : (w.alloc (.cells #[V 0, V 0, .slice none 0 0] 29)).heap.size = w.heap.size + 1 := by simp
  have b2 : Box ((w.alloc (.cells #[V 0, V 0, .slice none 0 0] 29)).alloc (.cells #[.nilIface] 35)) (w.heap.size + 1) #[.nilIface] := Box.newAt z1
  have u2 : Up w ((w.alloc (.cells #[V 0, V 0, .slice none 0 0] 29)).alloc (.cells #[.nilIface] 35)) := u1.trans (Up.alloc _ _)
  replace b1 := b1.alloc (.cells #[.nilIface] 35)
  clear u1 z1
  go_enter_defers Tryd.func16, Tryd.ntmps16
  go_upto_region 2 with fail
  generalize (w.alloc (.cells #[V 0, V 0, .slice none 0 0] 29)).alloc (.cells #[.nilIface] 35) = w0 at *
  go_wp2_with fail
  refine (hin _ u2).mono ?_
  rintro e w1 ⟨⟨v7, rfl, s7⟩, u3⟩
  have U3 := u2.trans u3
  replace b1 := b1.up u3
  replace b2 := b2.up u3
  have hlt1 := b2.lt
  clear u2 u3 hin
  go_wp2_with fail
  refine (NewReader_any base v7 INN _ s7 HL.out).mono ?_
  rintro e w2 ⟨r, rfl, hz, hr, u4⟩
  have U4 := U3.trans u4
  replace b1 := b1.up u4
  replace b2 := b2.up u4
  have RS : RdS w2.heap.size w2 r aS aF (some INN) := ⟨hr.pR.lt, Nat.le_refl _, hr.pR, HG.out.1.up U4, HG.out.2.up U4, (HG.out.1.up U4).lt, (HG.out.2.up U4).lt⟩
  have hrk : w.heap.size + 1 < r := by
    omega
  clear s7 hr u4 U3 hlt1
  go_wp2_with fail
  refine (HTS.out RS).mono ?_
  rintro e w3 ⟨hE, g3⟩
  have U5 : Up w w3 := g3.upI U4 (by omega)
  have B1 := b1.but g3 (by omega)
  have B2 := b2.but g3 (by omega)
  have hbase : w.heap.size ≤ w2.heap.size := U4.size
  have hk2 := b2.lt
  clear b1 b2 U4 g3 RS HTS
  cases D with
  | error x =>
    cases x with
    | short =>
      obtain rfl : e = Pan aS := hE
      refine leaves_cons (f := 29) (args := #[.pointer (some ⟨w.heap.size, 0, none⟩), .pointer (some ⟨w.heap.size + 1, 0, none⟩)]) (by simp) (by simp [go_sem]) ?_
      refine (catch_fault w.heap.size (w.heap.size + 1) _ _ _ _ aS w3 B1 B2 (by omega) []).mono ?_
      rintro e u' w'' ⟨rfl, rfl, d1, d2, t⟩
      obtain ⟨q0, q1, q2⟩ := d1.c3
      have q3 : w''.cell? ⟨w.heap.size + 1, 0, none⟩ = some (E aS) := d2.cell 0
      have hU : Up w w'' := Below.trans U5 (t.below (fun j hj => by simp only [List.mem_cons, List.not_mem_nil, or_false] at hj; omega) U5.size)
      simp [Leaves, settle, results, Tryd.results16, go_sem, q0, q1, q2, q3]
      exact ⟨rfl, hU⟩
    | form =>
      obtain rfl : e = Pan aF := hE
      refine leaves_cons (f := 29) (args := #[.pointer (some ⟨w.heap.size, 0, none⟩), .pointer (some ⟨w.heap.size + 1, 0, none⟩)]) (by simp) (by simp [go_sem]) ?_
      refine (catch_fault w.heap.size (w.heap.size + 1) _ _ _ _ aF w3 B1 B2 (by omega) []).mono ?_
      rintro e u' w'' ⟨rfl, rfl, d1, d2, t⟩
      obtain ⟨q0, q1, q2⟩ := d1.c3
      have q3 : w''.cell? ⟨w.heap.size + 1, 0, none⟩ = some (E aF) := d2.cell 0
      have hU : Up w w'' := Below.trans U5 (t.below (fun j hj => by simp only [List.mem_cons, List.not_mem_nil, or_false] at hj; omega) U5.size)
      simp [Leaves, settle, results, Tryd.results16, go_sem, q0, q1, q2, q3]
      exact ⟨rfl, hU⟩
    | sum => exact absurd rfl hns
  | ok s =>
    obtain ⟨vk, rfl, ho⟩ := hE
    obtain ⟨ak, ck, rfl⟩ := ho.shape
    obtain ⟨l, f, xs⟩ := s
    simp only at ho ⊢
    generalize hXN : xs.length = XN at *
    obtain ⟨c0, c1, c2⟩ := B1.c3
    have f1 := B1.frozen
    have c3 : w3.cell? ⟨w.heap.size + 1, 0, none⟩ = some .nilIface := B2.cell 0
    have f2 := B2.frozen 0
    have X1 := B1.set3 (x := V l) (y := V f) (z := .slice ak XN ck)
    have X2 := ((B2.other (g := w.heap.size) (by omega) 0 (V l)).other (g := w.heap.size) (by omega) 1 (V f)).other (g := w.heap.size) (by omega) 2 (.slice ak XN ck)
    have T3 := ((((Touch.refl w3 [w.heap.size, w.heap.size + 1]).setCell (k := w.heap.size) (.inl (by simp)) 0 (V l)).setCell (k := w.heap.size) (.inl (by simp)) 1 (V f)).setCell (k := w.heap.size) (.inl (by simp)) 2 (.slice ak XN ck)).setCell (k := w.heap.size + 1) (.inl (by simp)) 0 .nilIface
    have Y1 := X1.other (g := w.heap.size + 1) (by omega) 0 .nilIface
    have Y2 := X2.set 0 .nilIface
    have hge := ho.ge
    have O3 := ho.kept T3 (fun j hj => by have := hge j hj; simp only [List.mem_cons, List.not_mem_nil, or_false]; omega)
    have hU : Up w _ := Below.trans U5 (T3.below (fun j hj => by simp only [List.mem_cons, List.not_mem_nil, or_false] at hj; omega) U5.size)
    clear X1 X2 T3 hge
    go_wp2
    generalize World.setCell _ _ _ = w9 at *
    refine leaves_cons (f := 29) (args := #[.pointer (some ⟨w.heap.size, 0, none⟩), .pointer (some ⟨w.heap.size + 1, 0, none⟩)]) (by simp) (by simp [go_sem]) ?_
    refine (catch_idle w.heap.size (w.heap.size + 1) _).mono ?_
    rintro e u' w'' ⟨rfl, rfl, rfl⟩
    obtain ⟨q0, q1, q2⟩ := Y1.c3
    have q3 := Y2.cell 0
    clear c0 c1 c2 c3 f1 f2 B1 B2
    simp [Leaves, settle, results, Tryd.results16, go_sem, q0, q1, q2, q3]
    exact ⟨⟨_, rfl, O3.rebase hbase⟩, hU⟩

theorem Decode_any {base : Nat} {v : Value} {bs : List UInt8} {w : World} {aS aF aU : Addr} (hs : Sl base w v bs) (hl : bs.length ≤ 140737488351232) (ht : Tb w) (gS : Gl w 1 aS) (gF : Gl w 2 aF) (gU : Gl w 3 aU) :
    Calls Tryd.prog 16 #[v] w fun e w' => DecP w.heap.size w' aS aF aU e (decI bs) ∧ Up w w' := by
  have sh : ∃ b n c, v = .slice b n c := by obtain ⟨ao, cap, rfl, _⟩ := hs; exact ⟨_, _, _, rfl⟩
  unfold decI
  by_cases h1 : bs.length < 28
  · rw [if_pos h1]
    refine Decode_no1 sh fun u k => ?_
    refine (inside_short (hs.up k) (gS.up k) h1).mono ?_
    rintro e w' ⟨rfl, rfl⟩
    exact ⟨rfl, Up.refl _⟩
  · rw [if_neg h1]
    by_cases h2 : bs.take 4 ≠ mrk
    · rw [if_pos h2]
      refine Decode_no1 sh fun u k => ?_
      refine (inside_form (hs.up k) (gF.up k) (by omega) h2 (by omega)).mono ?_
      rintro e w' ⟨rfl, rfl⟩
      exact ⟨rfl, Up.refl _⟩
    · rw [if_neg h2]
      by_cases h3 : lb (bs.drop (bs.length - 4)) ≠ (sumC (bs.take (bs.length - 4))).toNat
      · rw [if_pos h3]
        refine Decode_no1 sh fun u k => ?_
        refine (inside_sum (q := true) (hs.up k) (gS.up k) (gU.up k) (ht.up k) (by omega) (Classical.not_not.1 h2) hl (by simp only [bne_iff_ne, ne_eq]; omega)).mono ?_
        rintro e w' ⟨hE, k2⟩
        exact ⟨hE, k2⟩
      · rw [if_neg h3]
        refine Decode_go (base := base) sh gS gF (by rw [List.length_drop, List.length_take]; omega) (by rw [List.length_drop, List.length_take]; omega) fun u k => ?_
        refine (inside_sum (q := false) (hs.up k) (gS.up k) (gU.up k) (ht.up k) (by omega) (Classical.not_not.1 h2) hl (by simp only [bne_eq_false_iff_eq]; omega)).mono ?_
        rintro e w' ⟨hE, k2⟩
        exact ⟨hE, k2⟩
end Go.Proofs.YtooclofdljampaaDoor

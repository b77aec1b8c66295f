/- image: ImageUnlike (laid by genUnlike.py). Own work. -/
import Derived.Test.YtooclofdljampaaDoorImForth
import Derived.Test.YtooclofdljampaaDoorImBack
set_option linter.unusedVariables false
set_option linter.unusedSimpArgs false
namespace Go.Proofs.YtooclofdljampaaDoor
open Go Go.RowKit

/-- What Encode answers. -/
def EncP (base : Nat) (w' : World) (a : Addr) (e : Ending) (s : StV) : Prop :=
  if okS s = true then ∃ v', e = .returned (.tuple #[v', .nilIface]) ∧ Own w' 5 base v' (imgB s) else e = .returned (.tuple #[.slice none 0 0, E a])
theorem IKn.enc {w : World} {ad : Nat → Addr} (h : IKn w ad) {v : Value} {l f : Nat} {xs : List Ent} (hs : SlE w v xs) (hl : xs.length ≤ 4611686018427387903) (h64 : St64 ⟨l, f, xs⟩) :
    Calls Tryd.prog 13 #[.agg #[V l, V f, v]] w fun e w' => EncP w.heap.size w' (ad 0) e ⟨l, f, xs⟩ ∧ Up w w' := by
  unfold EncP
  cases hok : okS ⟨l, f, xs⟩ with
  | true =>
    refine (Encode_ok v l f xs w hs h.tb h64 hok).mono ?_
    rintro e w' ⟨v', rfl, o, u⟩
    rw [if_pos rfl]
    exact ⟨⟨v', rfl, o⟩, u⟩
  | false =>
    refine (Encode_no v l f xs w _ h.gA hs hl hok).mono ?_
    rintro e w' ⟨rfl, u⟩
    rw [if_neg (by simp)]
    exact ⟨rfl, u⟩

/-- The two boxes of the law's states. -/
structure Two (B : Nat) (l f m g N M : Nat) (ao bo : Option Addr) (ac bc : Nat) (u : World) : Prop where
  a : Box u B #[V l, V f, .slice ao N ac]
  b : Box u (B + 1) #[V m, V g, .slice bo M bc]
theorem Two.up {B l f m g N M : Nat} {ao bo : Option Addr} {ac bc : Nat} {u u' : World} (h : Two B l f m g N M ao bo ac bc u) (k : Up u u') : Two B l f m g N M ao bo ac bc u' := ⟨h.a.up k, h.b.up k⟩

set_option maxRecDepth 20000 in
set_option maxHeartbeats 6400000 in
theorem ImageUnlike_any (va vb : Value) (l f m g : Nat) (xs ys : List Ent) (w : World) (ad : Nat → Addr) (hk : IKn w ad) (h : SlE w va xs) (k : SlE w vb ys) (hl : xs.length ≤ 1759218604390) (kl : ys.length ≤ 1759218604390) (h64 : St64 ⟨l, f, xs⟩) (k64 : St64 ⟨m, g, ys⟩) :
    Calls Tryd.prog 7 #[.agg #[V l, V f, va], .agg #[V m, V g, vb]] w fun e w' => e = .returned (.bool true) ∧ Up w w' := by
  have HK : Hid (IKn w ad) := hk
  have HS : Hid (SlE w va xs ∧ xs.length ≤ 1759218604390 ∧ St64 ⟨l, f, xs⟩) := ⟨h, hl, h64⟩
  have HT : Hid (SlE w vb ys ∧ ys.length ≤ 1759218604390 ∧ St64 ⟨m, g, ys⟩) := ⟨k, kl, k64⟩
  obtain ⟨ao, ac, rfl⟩ := h.shape
  obtain ⟨bo, bc, rfl⟩ := k.shape
  obtain ⟨N, hN⟩ : ∃ N, xs.length = N := ⟨_, rfl⟩
  obtain ⟨M, hM⟩ : ∃ M, ys.length = M := ⟨_, rfl⟩
  have HN : Hid (xs.length = N ∧ ys.length = M) := ⟨hN, hM⟩
  rw [hN] at HS ⊢
  rw [hM] at HT ⊢
  clear hk h k hl kl h64 k64 hN hM
  have b0 : Box ((w.alloc (.cells #[V l, V f, .slice ao N ac] 29)).alloc (.cells #[V m, V g, .slice bo M bc] 29)) w.heap.size #[V l, V f, .slice ao N ac] := (Box.new _ _ _).alloc _
  have b1 : Box ((w.alloc (.cells #[V l, V f, .slice ao N ac] 29)).alloc (.cells #[V m, V g, .slice bo M bc] 29)) (w.heap.size + 1) #[V m, V g, .slice bo M bc] := Box.newAt (by simp)
  have u0 : Up w ((w.alloc (.cells #[V l, V f, .slice ao N ac] 29)).alloc (.cells #[V m, V g, .slice bo M bc] 29)) := (Up.alloc _ _).trans (Up.alloc _ _)
  go_enter Tryd.func7, Tryd.ntmps7
  go_upto_region 1 with fail
  have tw : Two w.heap.size l f m g N M ao bo ac bc _ := ⟨b0, b1⟩
  clear b0 b1
  generalize (w.alloc (.cells #[V l, V f, .slice ao N ac] 29)).alloc (.cells #[V m, V g, .slice bo M bc] 29) = w0 at *
  generalize w.heap.size = B at *
  go_wp2_with fail
  refine (awake_any w0 ad (HK.out.up u0)).mono ?_
  rintro e w1 ⟨rfl, u1⟩
  replace u0 := u0.trans u1
  replace tw := tw.up u1
  clear u1
  obtain ⟨c0, c1, c2⟩ := tw.a.c3
  obtain ⟨d0, d1, d2⟩ := tw.b.c3
  go_wp2_with fail
  refine (wide_any _ l f xs _ (HS.out.1.up u0) (by rw [HN.out.1]; exact HS.out.2.1)).mono ?_
  rintro e w2 ⟨⟨q, rfl⟩, u1⟩
  replace u0 := u0.trans u1
  replace tw := tw.up u1
  clear u1 c0 c1 c2 d0 d1 d2
  obtain ⟨c0, c1, c2⟩ := tw.a.c3
  obtain ⟨d0, d1, d2⟩ := tw.b.c3
  cases q with
  | true =>
    go_wp2
    go_ret
    exact ⟨rfl, u0⟩
  | false =>
    go_wp2_with fail
    refine (wide_any _ m g ys _ (HT.out.1.up u0) (by rw [HN.out.2]; exact HT.out.2.1)).mono ?_
    rintro e w3 ⟨⟨q, rfl⟩, u1⟩
    replace u0 := u0.trans u1
    replace tw := tw.up u1
    clear u1 c0 c1 c2 d0 d1 d2
    obtain ⟨c0, c1, c2⟩ := tw.a.c3
    obtain ⟨d0, d1, d2⟩ := tw.b.c3
    cases q with
    | true =>
      go_wp2
      go_ret
      exact ⟨rfl, u0⟩
    | false =>
      go_wp2_with fail
      refine (copied_any _ l f xs _ (HS.out.1.up u0) (by rw [HN.out.1]; exact HS.out.2.1)).mono ?_
      rintro e w4 ⟨v4, rfl, o4, u1⟩
      replace u0 := u0.trans u1
      replace tw := tw.up u1
      clear u1 c0 c1 c2 d0 d1 d2
      have hE := (HK.out.up u0).enc o4.sl (by have := HN.out.1; have := HS.out.2.1; omega) HS.out.2.2
      obtain ⟨a4, n4, k4, rfl⟩ : ∃ a n c, v4 = .slice a n c := by obtain ⟨a, c, e⟩ := o4.shape; exact ⟨_, _, _, e⟩
      clear o4
      obtain ⟨c0, c1, c2⟩ := tw.a.c3
      obtain ⟨d0, d1, d2⟩ := tw.b.c3
      go_wp2_with fail
      refine hE.mono ?_
      rintro e w5 ⟨hP, u1⟩
      obtain ⟨v5, x5, rfl, h5⟩ : ∃ v5 x5, e = .returned (.tuple #[v5, x5]) ∧ ((okS ⟨l, f, xs⟩ = true ∧ x5 = .nilIface ∧ Sl 0 w5 v5 (imgB ⟨l, f, xs⟩)) ∨ (x5 = E (ad 0) ∧ v5 = .slice none 0 0)) := by
        unfold EncP at hP
        split at hP
        · obtain ⟨v', rfl, o⟩ := hP
          exact ⟨v', _, rfl, .inl ⟨by assumption, rfl, own_z o⟩⟩
        · exact ⟨_, _, hP, .inr ⟨rfl, rfl⟩⟩
      replace u0 := u0.trans u1
      replace tw := tw.up u1
      clear u1 c0 c1 c2 d0 d1 d2 hE hP
      obtain ⟨a5, n5, k5, rfl⟩ : ∃ a n c, v5 = .slice a n c := by
        rcases h5 with ⟨_, _, h⟩ | ⟨_, rfl⟩
        · obtain ⟨ao, c, e, _⟩ := h; exact ⟨_, _, _, e⟩
        · exact ⟨_, _, _, rfl⟩
      have H5 : Hid ((okS ⟨l, f, xs⟩ = true ∧ x5 = .nilIface ∧ Sl 0 w5 (.slice a5 n5 k5) (imgB ⟨l, f, xs⟩)) ∨ (x5 = E (ad 0) ∧ Value.slice a5 n5 k5 = .slice none 0 0)) := h5
      clear h5
      obtain ⟨c0, c1, c2⟩ := tw.a.c3
      obtain ⟨d0, d1, d2⟩ := tw.b.c3
      go_wp2_with fail
      refine (copied_any _ m g ys _ (HT.out.1.up u0) (by rw [HN.out.2]; exact HT.out.2.1)).mono ?_
      rintro e w6 ⟨v6, rfl, o6, u1⟩
      replace u0 := u0.trans u1
      replace tw := tw.up u1
      have H6 : Hid (Up w5 w6) := u1
      clear u1 c0 c1 c2 d0 d1 d2
      have hE := (HK.out.up u0).enc o6.sl (by have := HN.out.2; have := HT.out.2.1; omega) HT.out.2.2
      obtain ⟨a6, n6, k6, rfl⟩ : ∃ a n c, v6 = .slice a n c := by obtain ⟨a, c, e⟩ := o6.shape; exact ⟨_, _, _, e⟩
      clear o6
      obtain ⟨c0, c1, c2⟩ := tw.a.c3
      obtain ⟨d0, d1, d2⟩ := tw.b.c3
      go_wp2_with fail
      refine hE.mono ?_
      rintro e w7 ⟨hP, u1⟩
      obtain ⟨v7, x7, rfl, h7⟩ : ∃ v7 x7, e = .returned (.tuple #[v7, x7]) ∧ ((okS ⟨m, g, ys⟩ = true ∧ x7 = .nilIface ∧ Sl 0 w7 v7 (imgB ⟨m, g, ys⟩)) ∨ (x7 = E (ad 0) ∧ v7 = .slice none 0 0)) := by
        unfold EncP at hP
        split at hP
        · obtain ⟨v', rfl, o⟩ := hP
          exact ⟨v', _, rfl, .inl ⟨by assumption, rfl, own_z o⟩⟩
        · exact ⟨_, _, hP, .inr ⟨rfl, rfl⟩⟩
      replace u0 := u0.trans u1
      replace tw := tw.up u1
      have H7 : Hid (Up w5 w7) := H6.out.trans u1
      clear u1 c0 c1 c2 d0 d1 d2 hE hP H6
      obtain ⟨a7, n7, k7, rfl⟩ : ∃ a n c, v7 = .slice a n c := by
        rcases h7 with ⟨_, _, h⟩ | ⟨_, rfl⟩
        · obtain ⟨ao, c, e, _⟩ := h; exact ⟨_, _, _, e⟩
        · exact ⟨_, _, _, rfl⟩
      rcases H5.out with ⟨ok5, rfl, s5⟩ | ⟨rfl, _⟩
      · rcases h7 with ⟨ok7, rfl, s7⟩ | ⟨rfl, _⟩
        · have HQ : Hid (decide (imgB ⟨l, f, xs⟩ = imgB ⟨m, g, ys⟩) = decide ((⟨l, f, xs⟩ : StV) = ⟨m, g, ys⟩) ∧ (imgB ⟨l, f, xs⟩).length ≤ 500000 ∧ (imgB ⟨m, g, ys⟩).length ≤ 500000) := by
            refine ⟨?_, imgB_small ok5, imgB_small ok7⟩
            by_cases he : (⟨l, f, xs⟩ : StV) = ⟨m, g, ys⟩
            · rw [decide_eq_true he, decide_eq_true (by rw [he])]
            · rw [decide_eq_false he, decide_eq_false (fun q => he (img_inj ok5 ok7 HS.out.2.2 HT.out.2.2 q))]
          have HS5 : Hid (Sl 0 w7 (.slice a5 n5 k5) (imgB ⟨l, f, xs⟩) ∧ Sl 0 w7 (.slice a7 n7 k7) (imgB ⟨m, g, ys⟩)) := ⟨s5.up H7.out, s7⟩
          obtain ⟨q, hq⟩ : ∃ q, decide ((⟨l, f, xs⟩ : StV) = ⟨m, g, ys⟩) = q := ⟨_, rfl⟩
          rw [hq] at HQ
          have HQ2 : Hid (decide ((⟨l, f, xs⟩ : StV) = ⟨m, g, ys⟩) = q) := hq
          generalize imgB ⟨l, f, xs⟩ = IA at HQ HS5 s5
          generalize imgB ⟨m, g, ys⟩ = IB at HQ HS5 s7
          clear ok5 ok7 s5 s7 H5 H7 hq
          go_upto_region 8 with fail
          have U0 := u0.trans (Up.drew w7)
          have hs := tw.up (Up.drew w7)
          have ud : Up w7 w7.drew := Up.drew w7
          clear tw u0
          refine wp_region_held_drew (S := fun u => Two B l f m g N M ao bo ac bc u) (by kernel_rfl) hs (fun hs0 => ?_)
          clear hs0
          generalize w7.drew = wd at *
          refine take_to (some 40) (i := 0) (v := .slice a5 n5 k5) rfl rfl (by kernel_rfl) (by kernel_rfl) (by kernel_rfl) (fun _ _ _ h => h) (Or.inl ⟨by kernel_rfl, by intro u hSu; go_simp⟩) hs ?_
          simp only [Act.put, List.setIfInBounds_toArray, List.set_cons_zero, List.set_cons_succ]
          refine take_to (some 41) (i := 1) (v := .slice a7 n7 k7) rfl rfl (by kernel_rfl) (by kernel_rfl) (by kernel_rfl) (fun _ _ _ h => h) (Or.inl ⟨by kernel_rfl, by intro u hSu; go_simp⟩) hs ?_
          simp only [Act.put, List.setIfInBounds_toArray, List.set_cons_zero, List.set_cons_succ]
          refine take_to (some 43) (i := 3) (v := .agg #[V l, V f, .slice ao N ac]) rfl rfl (by kernel_rfl) (by kernel_rfl) (by kernel_rfl) (fun _ _ _ h => h) (Or.inl ⟨by kernel_rfl, by intro u hSu; obtain ⟨q0, q1, q2⟩ := hSu.a.c3; go_simp⟩) hs ?_
          simp only [Act.put, List.setIfInBounds_toArray, List.set_cons_zero, List.set_cons_succ]
          refine take_to (some 44) (i := 4) (v := .agg #[V m, V g, .slice bo M bc]) rfl rfl (by kernel_rfl) (by kernel_rfl) (by kernel_rfl) (fun _ _ _ h => h) (Or.inl ⟨by kernel_rfl, by intro u hSu; obtain ⟨q0, q1, q2⟩ := hSu.b.c3; go_simp⟩) hs ?_
          simp only [Act.put, List.setIfInBounds_toArray, List.set_cons_zero, List.set_cons_succ]
          refine wpAnyH_ready (rs := [2]) (by kernel_rfl) (by simp) ?_
          refine AllReadyH.cons rfl (fun K hK => ?_) AllReadyH.nil
          go_simp
          refine (rsame_any 0 0 _ _ IA IB _ (HS5.out.1.up ud) (HS5.out.2.up ud) (by have := HQ.out.2.1; omega) (by have := HQ.out.2.2; omega)).mono ?_
          rintro e w8 ⟨rfl, hw8⟩
          rw [HQ.out.1]
          have u8 := drewR_up hw8
          replace hs := hs.up u8
          replace ud := ud.trans u8
          replace U0 := U0.trans u8
          clear hw8 u8
          refine hK.out _ _ hs (fun _ => ?_)
          clear hK K
          refine wpAnyH_ready (rs := [5]) (by kernel_rfl) (by simp) ?_
          refine AllReadyH.cons rfl (fun K hK => ?_) AllReadyH.nil
          go_simp
          refine (alike_any _ _ l m f g xs ys _ (HS.out.1.up U0) (HT.out.1.up U0) (by have := HN.out.1; have := HS.out.2.1; omega)).mono ?_
          rintro e w9 ⟨rfl, u9⟩
          rw [HQ2.out]
          replace hs := hs.up u9
          replace ud := ud.trans u9
          replace U0 := U0.trans u9
          clear u9
          refine hK.out _ _ hs (fun _ => ?_)
          clear hK K
          have hqq : (q == q) = true := by cases q <;> rfl
          refine take_to (some 46) (i := 6) (v := .bool true) rfl rfl (by kernel_rfl) (by kernel_rfl) (by kernel_rfl) (fun _ _ _ h => h) (Or.inl ⟨by kernel_rfl, by intro u hSu; go_simp⟩) hs ?_
          simp only [Act.put, List.setIfInBounds_toArray, List.set_cons_zero, List.set_cons_succ]
          refine take_to (some 4) (i := 7) (v := .bool true) rfl rfl (by kernel_rfl) (by kernel_rfl) (by kernel_rfl) (fun _ _ _ h => h) (Or.inl ⟨by kernel_rfl, by intro u hSu; go_simp⟩) hs ?_
          simp only [Act.put, List.setIfInBounds_toArray, List.set_cons_zero, List.set_cons_succ]
          refine wpAnyH_done (by kernel_rfl) ?_ _
          go_wp2
          go_ret
          exact ⟨rfl, U0⟩
        · clear H5 H7 s5
          go_wp2
          go_ret
          exact ⟨rfl, u0⟩
      · rcases h7 with ⟨ok7, rfl, s7⟩ | ⟨rfl, _⟩
        · clear H5 H7 s7
          go_wp2
          go_ret
          exact ⟨rfl, u0⟩
        · clear H5 H7
          go_wp2
          go_ret
          exact ⟨rfl, u0⟩
end Go.Proofs.YtooclofdljampaaDoor

/- table: the law's yields, T. Laid by genYield.py out of yield.src. Own work. -/
import Derived.Test.YtldmiieepikjnaaTbYield
set_option linter.unusedVariables false
set_option linter.unusedSimpArgs false
namespace Go.Proofs.Ytldmiieepikjnaa
open Go Go.RowKit
attribute [local go_sem] Oper.semAt_some wideFn

set_option maxRecDepth 100000 in
set_option maxHeartbeats 8000000 in
theorem yieldsT_in (tp : Option Addr) (key : ByteArray) (most : Int) (xs : List (KV Int)) (w : World) (h : TabP w tp xs) (hn : xs.length ≤ 4000000000000) (hm : most ≠ 0) :
    CallsIn Fence.wide 5 Try.prog 42 #[.pointer tp, .bool true, .string key, .int .i64 most] w fun e w' => ∃ v, e = .returned (.tuple #[v, .bool true]) ∧ SlIt w' v (cut most xs) ∧ (∀ k ∈ ob v, w.heap.size ≤ k) ∧ Up w w' := by
  have q1 := FromI_any tp key
  have q2 := AllI_any tp
  have hmb : (most == 0) = false := by simpa using hm
  have hnf := nf1
  obtain ⟨i0, hi, hz0, hz1, hz2⟩ := info_parts Try.infoItem
  obtain ⟨ZS, hZS⟩ : ∃ ZS, fromL ⟨#[]⟩ xs = ZS := ⟨_, rfl⟩
  have hZ : xs = ZS := (from_all (xs := xs)).symm.trans hZS
  have hln : ZS.length ≤ 4000000000000 := by rw [← hZS]; exact Nat.le_trans (List.length_filter_le ..) hn
  rw [hZ]
  have s0 := Boxed.new w 3 (.int .i64 most)
  have HU : Up w ((((((w.alloc (.cells #[.int .i64 most] 3)).alloc (.cells #[.slice none 0 0] 39)).alloc (.cells #[.pointer tp] 24)).alloc (.cells #[.string key] 9)).alloc (.cells #[.pointer tp] 24)).alloc (.cells #[.string ⟨#[]⟩] 9)) := by
    refine Up.trans ?_ (Up.alloc _ _)
    repeat' (first | exact Up.refl _ | refine Up.trans ?_ (Up.alloc _ _))
  have b7 : Boxed ((((((w.alloc (.cells #[.int .i64 most] 3)).alloc (.cells #[.slice none 0 0] 39)).alloc (.cells #[.pointer tp] 24)).alloc (.cells #[.string key] 9)).alloc (.cells #[.pointer tp] 24)).alloc (.cells #[.string ⟨#[]⟩] 9)) w.heap.size 3 (.int .i64 most) := by
    repeat' (first | exact Boxed.new w 3 (.int .i64 most) | refine Boxed.alloc ?_ _)
  have b10 : Boxed ((((((w.alloc (.cells #[.int .i64 most] 3)).alloc (.cells #[.slice none 0 0] 39)).alloc (.cells #[.pointer tp] 24)).alloc (.cells #[.string key] 9)).alloc (.cells #[.pointer tp] 24)).alloc (.cells #[.string ⟨#[]⟩] 9)) (w.heap.size + 1) 39 (.slice none 0 0) := by
    have s1 := Boxed.new (w.alloc (.cells #[.int .i64 most] 3)) 39 (.slice none 0 0)
    rw [World.size_alloc] at s1
    repeat' (first | exact s1 | refine Boxed.alloc ?_ _)
  have bt : Boxed ((((((w.alloc (.cells #[.int .i64 most] 3)).alloc (.cells #[.slice none 0 0] 39)).alloc (.cells #[.pointer tp] 24)).alloc (.cells #[.string key] 9)).alloc (.cells #[.pointer tp] 24)).alloc (.cells #[.string ⟨#[]⟩] 9)) (w.heap.size + 1 + 1 + 1 + 1) 24 (.pointer tp) := by
    refine Boxed.alloc ?_ _
    have := Boxed.new (((((((w.alloc (.cells #[.int .i64 most] 3)).alloc (.cells #[.slice none 0 0] 39)).alloc (.cells #[.pointer tp] 24)).alloc (.cells #[.string key] 9)).alloc (.cells #[.pointer tp] 24)).alloc (.cells #[.string ⟨#[]⟩] 9))) 24 (.pointer tp)
    simp only [World.size_alloc] at this
    first | exact Boxed.newAt' (by simp only [World.size_alloc]) | skip
  have bk : Boxed ((((((w.alloc (.cells #[.int .i64 most] 3)).alloc (.cells #[.slice none 0 0] 39)).alloc (.cells #[.pointer tp] 24)).alloc (.cells #[.string key] 9)).alloc (.cells #[.pointer tp] 24)).alloc (.cells #[.string ⟨#[]⟩] 9)) (w.heap.size + 1 + 1 + 1 + 1 + 1) 9 (.string ⟨#[]⟩) := Boxed.newAt' (by simp only [World.size_alloc])
  have HS := stopsP 4 (w.heap.size + 1 + 1 + 1 + 1) (w.heap.size + 1 + 1 + 1 + 1 + 1) ⟨#[]⟩ (h.up HU) bt.cell bk.cell
  rw [hZS] at HS
  have hsz : w.heap.size ≤ (((((((w.alloc (.cells #[.int .i64 most] 3)).alloc (.cells #[.slice none 0 0] 39)).alloc (.cells #[.pointer tp] 24)).alloc (.cells #[.string key] 9)).alloc (.cells #[.pointer tp] 24)).alloc (.cells #[.string ⟨#[]⟩] 9))).heap.size := HU.size
  have hsz1 : w.heap.size + 1 ≤ (((((((w.alloc (.cells #[.int .i64 most] 3)).alloc (.cells #[.slice none 0 0] 39)).alloc (.cells #[.pointer tp] 24)).alloc (.cells #[.string key] 9)).alloc (.cells #[.pointer tp] 24)).alloc (.cells #[.string ⟨#[]⟩] 9))).heap.size := Nat.le_of_lt b10.lt
  have h0 : YI w most [] ((((((w.alloc (.cells #[.int .i64 most] 3)).alloc (.cells #[.slice none 0 0] 39)).alloc (.cells #[.pointer tp] 24)).alloc (.cells #[.string key] 9)).alloc (.cells #[.pointer tp] 24)).alloc (.cells #[.string ⟨#[]⟩] 9)) := ⟨⟨⟨_, b10, World.ownsRow_nil _ _ _ _, trivial⟩, b7, fun h => by simpa using h⟩, HU⟩
  have c7 := b7.cell
  refine callsIn_of_wp_marks Try.func42 rfl trivial ?_ rfl
  simp only [Try.ntmps42, List.size_toArray, List.length_cons, List.length_nil, Nat.reduceAdd, Nat.reduceSub, Array.replicate_succ, Array.replicate_zero, List.push_toArray, List.append_toArray, List.nil_append, List.cons_append]
  gi_wp2_with (first
    | (gi_at_call 23; refine (callsIn_wide.2 (q1 _)).mono ?_; clear q1; rintro e w1 ⟨rfl, rfl⟩)
    | (gi_at_call 62; refine (callsIn_wide.2 (q2 _)).mono ?_; clear q2; rintro e w1 ⟨rfl, rfl⟩))
  clear c7 hnf s0 b7 b10 bt bk
  try clear q1
  try clear q2
  generalize hW0 : ((((((w.alloc (.cells #[.int .i64 most] 3)).alloc (.cells #[.slice none 0 0] 39)).alloc (.cells #[.pointer tp] 24)).alloc (.cells #[.string key] 9)).alloc (.cells #[.pointer tp] 24)).alloc (.cells #[.string ⟨#[]⟩] 9)) = W0 at HU HS hsz hsz1 h0 ⊢
  refine wpIn_rangeFunc_ownF rfl (by omega) (gf := 51) (lb := #[.pointer (some ⟨w.heap.size + 1 + 1 + 1 + 1, 0, none⟩), .pointer (some ⟨w.heap.size + 1 + 1 + 1 + 1 + 1, 0, none⟩)]) rfl trivial (enters_of Try.func51 (by kernel_rfl) rfl)
    HS St_t (fun W l o o' h1 h2 h3 h4 => St_b (w := W0) W l o o' h1 h2 h3 h4) (Below.refl _ _) (fun _ => rfl) (YI w most) (YX w most) (YI_own w most _ hsz) (fun c => YX_own w most c _ hsz) h0
    (fun x => { tmps := #[.pointer tp, .bool true, .string key, .int .i64 most, undef, undef, undef, .pointer (some ⟨w.heap.size, 0, none⟩), .slice none 0 0, .bool false, .pointer (some ⟨w.heap.size + 1, 0, none⟩), .func (.func 51) #[] #[.pointer (some ⟨w.heap.size + 1 + 1 + 1 + 1, 0, none⟩), .pointer (some ⟨w.heap.size + 1 + 1 + 1 + 1 + 1, 0, none⟩)], .string x.1, .int .i64 x.2, .pointer tp, .string key, .func (.func 51) #[] #[.pointer (some ⟨w.heap.size + 1 + 1, 0, none⟩), .pointer (some ⟨w.heap.size + 1 + 1 + 1, 0, none⟩)], .bool true, .pointer tp, .func (.func 51) #[] #[.pointer (some ⟨w.heap.size + 1 + 1 + 1 + 1, 0, none⟩), .pointer (some ⟨w.heap.size + 1 + 1 + 1 + 1 + 1, 0, none⟩)], .func (.func 51) #[] #[.pointer (some ⟨w.heap.size + 1 + 1 + 1 + 1, 0, none⟩), .pointer (some ⟨w.heap.size + 1 + 1 + 1 + 1 + 1, 0, none⟩)], .bool false, undef, .int .i64 most, .bool false, undef, .func (.func 51) #[] #[.pointer (some ⟨w.heap.size + 1 + 1 + 1 + 1, 0, none⟩), .pointer (some ⟨w.heap.size + 1 + 1 + 1 + 1 + 1, 0, none⟩)], .string x.1, .int .i64 x.2, undef, undef, undef, undef, undef, undef, undef, undef, undef, undef, undef], defers := [] }) ?assign ?body ?done ?stop
  case assign =>
    intro l x W K hK
    gi_wp2
    exact hK
  case body =>
    rintro l pre x W ⟨⟨⟨v, hv, hrow, _⟩, h7, hmlt⟩, hB⟩ hlen
    have hWs := hB.size
    have h10 := hv.lt
    have hnews : ∀ j u, (It x)[j]? = some u → (W.alloc (.cells #[.string x.1, .int .i64 x.2] 51)).cell? ((⟨W.heap.size, 0, none⟩ : Addr).add j) = some u := by
      intro j u hj
      have bx : Box (W.alloc (.cells #[.string x.1, .int .i64 x.2] 51)) W.heap.size #[.string x.1, .int .i64 x.2] := Box.new _ _ _
      rw [Addr.add_lit]
      match j, hj with
      | 0, hj => simp at hj; subst hj; exact bx.c2.1
      | 1, hj => simp at hj; subst hj; exact bx.c2.2
      | j + 2, hj => simp at hj
    have hone : ∀ u ∈ It x, u.oneCell' = true := by
      intro u hu
      simp only [List.mem_cons, List.not_mem_nil, or_false] at hu
      rcases hu with rfl | rfl <;> rfl
    have FIN : Hid (∀ {g' cap' : Nat} {w1 : World}, w1.ownsRow w.heap.size 51 2 (.slice (some ⟨g', 0, none⟩) (pre.length + 1) cap') (pre.length + 1) (Its pre ++ It x) → (W.alloc (.cells #[.string x.1, .int .i64 x.2] 51)).grownBy w1 v.ownBlock →
        Boxed w1 (w.heap.size + 1) 39 v ∧ Boxed (w1.setCell ⟨w.heap.size + 1, 0, none⟩ (.slice (some ⟨g', 0, none⟩) (pre.length + 1) cap')) (w.heap.size + 1) 39 (.slice (some ⟨g', 0, none⟩) (pre.length + 1) cap') ∧
        Boxed (w1.setCell ⟨w.heap.size + 1, 0, none⟩ (.slice (some ⟨g', 0, none⟩) (pre.length + 1) cap')) w.heap.size 3 (.int .i64 most) ∧ KeepsOthers W (w1.setCell ⟨w.heap.size + 1, 0, none⟩ (.slice (some ⟨g', 0, none⟩) (pre.length + 1) cap')) ∧
        StI W (w1.setCell ⟨w.heap.size + 1, 0, none⟩ (.slice (some ⟨g', 0, none⟩) (pre.length + 1) cap')) ∧ (∃ v', Boxed (w1.setCell ⟨w.heap.size + 1, 0, none⟩ (.slice (some ⟨g', 0, none⟩) (pre.length + 1) cap')) (w.heap.size + 1) 39 v' ∧
          (w1.setCell ⟨w.heap.size + 1, 0, none⟩ (.slice (some ⟨g', 0, none⟩) (pre.length + 1) cap')).ownsRow w.heap.size 51 2 v' (pre ++ [x]).length (Its (pre ++ [x])) ∧ True) ∧ Below w.heap.size w (w1.setCell ⟨w.heap.size + 1, 0, none⟩ (.slice (some ⟨g', 0, none⟩) (pre.length + 1) cap'))) := fun {g' cap' w1} hown' hgrow => by
      obtain ⟨hv1, hv2, hr2, hk2, hb2⟩ := hv.appended (by decide) hrow hB.size (by omega) hown' hgrow
      have hnb : some w.heap.size ≠ v.ownBlock := h7.not_row (by decide) hrow
      have h71 : Boxed w1 w.heap.size 3 (.int .i64 most) := (h7.alloc _).kept hgrow hnb
      refine ⟨hv1, hv2, ?_, hk2, ?_, ⟨_, hv2, by rw [List.length_append, List.length_singleton, Its_app]; exact hr2, trivial⟩, hB.trans hb2⟩
      · exact h71.kept (grownBy_setCell' w1 _ _) (by simp)
      · refine (St_grown (World.grownBy_alloc W _ none) (fun r e => by cases e)).trans ((St_grown hgrow fun r e => ?_).trans (St_grown (grownBy_setCell' w1 _ _) fun r e => ?_))
        · rcases (hrow.alloc _).2 with ⟨rfl, _⟩ | ⟨g, cap, cur, rfl, _, hgb, _⟩
          · simp [Value.ownBlock] at e
          · simp [Value.ownBlock] at e
            subst e
            exact ⟨_, _, _, hgb, by decide, by decide⟩
        · cases e
          exact ⟨_, _, _, hv1, by decide, by decide⟩
    have hc := hv.cell
    have h7c := h7.cell
    have hlp : pre.length < 4000000000000 := by omega
    have hlI : (pre.length : Int) < 4000000000000 := by omega
    have HML : Hid ((0 < most → (pre.length : Int) < most) ∧ most ≠ 0) := ⟨hmlt, hm⟩
    obtain ⟨M, hM⟩ : ∃ M, pre.length = M := ⟨_, rfl⟩
    have HMM : Hid (pre.length = M) := hM
    simp only [hM] at FIN
    rw [hM] at hrow hlp hlI
    have hrow' := hrow.alloc (.cells #[.string x.1, .int .i64 x.2] 51)
    have HR : Hid ((W.alloc (.cells #[.string x.1, .int .i64 x.2] 51)).ownsRow w.heap.size 51 2 v M (Its pre) ∧ w.heap.size ≤ W.heap.size) := ⟨hrow', hB.size⟩
    clear hv h7 hrow hB hmlt hlen hM h0 HS HU hsz hsz1 hW0 h hZ hZS hln hn hmb hm hrow' hWs h10
    by_cases hx : ((M : Int) + 1) = most
    · have hxb : ((M : Int) + 1 == most) = true := by simpa using hx
      have HX : Hid ((M : Int) + 1 = most) := hx
      clear hx
      gi_wp2_with (gi_at_builtin; refine wpListIn_append_own _ rfl _ _ 39 rfl w.heap.size 51 i0 (.agg #[.string ⟨#[]⟩, .int .i64 0]) 2 24 Try.underlying39 hi hz0 hz1 hz2 rfl (by decide) v M (Its pre) rfl HR.out.1 ⟨W.heap.size, 0, none⟩ 1 1 (It x) rfl rfl hnews hone (by unfold maxLen; omega) (by omega) (by have := HR.out.2; rw [World.size_alloc]; omega) ?_; intro v' w1 hown' hgrow _; obtain ⟨g', cap', rfl⟩ := ownsRow_succ hown'; obtain ⟨f1, f2, f3, f4, f5, f6, f7⟩ := FIN.out hown' hgrow; have hc1 := f1.cell; have hf1 := f1.frozen; have hc2 := f2.cell; have hc3 := f3.cell)
      exact ⟨f4, ⟨f6, rfl, by have := HX.out; have := HMM.out; simp only [List.length_append, List.length_singleton]; omega⟩, f7⟩
    · have hxb : ((M : Int) + 1 == most) = false := by simpa using hx
      have HX : Hid (¬ (M : Int) + 1 = most) := hx
      clear hx
      gi_wp2_with (gi_at_builtin; refine wpListIn_append_own _ rfl _ _ 39 rfl w.heap.size 51 i0 (.agg #[.string ⟨#[]⟩, .int .i64 0]) 2 24 Try.underlying39 hi hz0 hz1 hz2 rfl (by decide) v M (Its pre) rfl HR.out.1 ⟨W.heap.size, 0, none⟩ 1 1 (It x) rfl rfl hnews hone (by unfold maxLen; omega) (by omega) (by have := HR.out.2; rw [World.size_alloc]; omega) ?_; intro v' w1 hown' hgrow _; obtain ⟨g', cap', rfl⟩ := ownsRow_succ hown'; obtain ⟨f1, f2, f3, f4, f5, f6, f7⟩ := FIN.out hown' hgrow; have hc1 := f1.cell; have hf1 := f1.frozen; have hc2 := f2.cell; have hc3 := f3.cell)
      exact ⟨f4, f5, ⟨f6, f3, fun hp => by have := HX.out; have := HMM.out; have := HML.out.1 hp; simp only [List.length_append, List.length_singleton]; omega⟩, f7⟩
  case done =>
    rintro D ys W hD rfl ⟨⟨⟨v, hv, hrow, _⟩, h7, hmlt⟩, hB⟩ hK
    have hc := hv.cell
    have hcut : cut most ys = ys := by
      unfold cut
      split
      · rename_i h1
        have := hmlt (by omega)
        exact List.take_of_length_le (by omega)
      · rfl
    have HF : Hid (∃ v', v = v' ∧ SlIt (W.putObj D (.deferred none)) v' (cut most ys) ∧ (∀ k ∈ ob v', w.heap.size ≤ k) ∧ Up w (W.putObj D (.deferred none))) := by
      have hr2 := ownsRow_putObj hrow (.deferred none) hK rfl
      have hr3 : OwnIt (W.putObj D (.deferred none)) w.heap.size v ys := hr2
      refine ⟨v, rfl, by rw [hcut]; exact hr3.sl, fun k hk => ?_, hB.trans (belowK_b (w := w) (Nat.le_refl _) W D _ _ (by omega) hK rfl rfl)⟩
      rcases hrow.2 with ⟨rfl, _⟩ | ⟨g, cap, cur, rfl, hb, _⟩
      · simp [ob, Value.ownBlock] at hk
      · simp [ob, Value.ownBlock] at hk; omega
    clear hv hrow h7 hmlt hB h0 HS HU hsz hsz1 hW0 h hZ hZS hln hn hmb hm hD
    gi_wp2
    refine ⟨by simp, .inl ⟨_, _, rfl, run_takeDeferred hK, ?_⟩⟩
    obtain ⟨v', rfl, h1, h2, h3⟩ := HF.out
    exact ⟨_, results_tmp2 rfl _ _ _, v, rfl, h1, h2, h3⟩
  case stop =>
    rintro D c pre W hD hpre ⟨⟨⟨v, hv, hrow, _⟩, rfl, hpm⟩, hB⟩ hK
    have hc := hv.cell
    have hcut : cut most ZS = pre := by
      obtain ⟨z, rfl⟩ := hpre
      unfold cut
      rw [if_pos (by omega), show most.toNat = pre.length by omega, List.take_left]
    have HF : Hid (∃ v', v = v' ∧ SlIt (W.putObj D (.deferred none)) v' (cut most ZS) ∧ (∀ k ∈ ob v', w.heap.size ≤ k) ∧ Up w (W.putObj D (.deferred none))) := by
      have hr2 := ownsRow_putObj hrow (.deferred none) hK rfl
      have hr3 : OwnIt (W.putObj D (.deferred none)) w.heap.size v pre := hr2
      refine ⟨v, rfl, by rw [hcut]; exact hr3.sl, fun k hk => ?_, hB.trans (belowK_b (w := w) (Nat.le_refl _) W D _ _ (by omega) hK rfl rfl)⟩
      rcases hrow.2 with ⟨rfl, _⟩ | ⟨g, cap, cur, rfl, hb, _⟩
      · simp [ob, Value.ownBlock] at hk
      · simp [ob, Value.ownBlock] at hk; omega
    clear hv hrow hpm hB h0 HS HU hsz hsz1 hW0 h hZ hZS hln hn hmb hm hD
    gi_wp2
    refine ⟨by simp, .inl ⟨_, _, rfl, run_takeDeferred hK, ?_⟩⟩
    obtain ⟨v', rfl, h1, h2, h3⟩ := HF.out
    exact ⟨_, results_tmp2 rfl _ _ _, v, rfl, h1, h2, h3⟩
end Go.Proofs.Ytldmiieepikjnaa

/- The statement SatOrderSaid: for every two numbers of 128 bits the law SatOrder returns true, and the arguments read as they did. -/
import Derived.Test.YtknanpnbpmmlgaaSatOrder
import Derived.Test.YtknanpnbpmmlgaaRows
import Derived.ChangeSame
import Derived.JoinedOf
import Derived.JoinedAt
import Derived.RowKit3
import Derived.ProofKit
import Derived.OpenShut
import Derived.Lib.SmallJoins
set_option linter.unusedVariables false
namespace Go.Proofs.Ytknanpnbpmmlgaa.satOrder
open Go Go.RowKit Go.ChangeShapes Go.WideShapes Go.ChangeAt Go.Joins

theorem own : ownKnob Try.prog.godebug = none := by kernel_rfl
theorem cells30 : Try.prog.cellsOf 30 = 2 := by kernel_rfl

set_option maxRecDepth 100000 in
theorem lifted (os : Os) (started : os.Started) (H : Type) (enc : TypeId × Value → H) :
    ReturnsInHanded {} Try.checked os 7 .any (Rows.satOrderSpec.pre6 enc Try.prog Try.f7 Rows.satOrderRow.domain false) (Rows.satOrderSpec.post enc Try.prog Try.f7 false true false false) := by
  refine returnsInHanded_of_change (C := Try.checked) own started (by kernel_rfl) Try.func7
    (ChangeSpec.witness6 (enc := enc) (C := Try.checked) false ⟨#[], #[.agg #[.int .u64 0, .int .u64 0], .agg #[.int .u64 0, .int .u64 0]], []⟩ 8 (by kernel_rfl) (by kernel_rfl) (by kernel_rfl) (by kernel_rfl)) ?_
  intro W base args ds gs before hval0 hW hcnd _
  have hval : ∀ (j : Nat) t v, Try.f7.params[j]? = some t → args[j]? = some v → Value.okWide Try.prog W .any base t v := hval0
  have hW' := hW
  obtain ⟨p, q, hA0, hV, rfl, hfz, hnd⟩ := hW
  have hA : DataW.TrodAll enc Try.prog W 0 (fun _ => true) true Try.f7.params.toList args.toList ds p := hA0
  rw [Try.params7] at hA hval
  obtain ⟨v0, vs0, d0, ds0, p0, q0, hargs, rfl, rfl, h0, r0⟩ := trodAll_cons hA
  obtain ⟨v1, vs1, d1, ds1, p1, q1, rfl, rfl, rfl, h1, r1⟩ := trodAll_cons r0
  obtain ⟨rfl, rfl, rfl⟩ := trodAll_nil r1
  obtain rfl : args = #[v0, v1] := by cases args; simp_all
  obtain ⟨rfl, rfl⟩ := trodVars_none hV
  obtain ⟨c0_0, c0_1, y0_0, y0_1, m0, rfl, rfl, rfl, hy0_0, hy0_1⟩ := open_agg2 Try.underlying30 (by kernel_rfl) cells30 (hval 0 30 v0 rfl rfl) h0
  obtain ⟨x0_0, e0_0, rfl, x0_0_w⟩ := DataW.trod_int Try.underlying25 hy0_0
  simp at e0_0
  subst e0_0
  have x0_0_b := bounds_u64 x0_0_w
  obtain ⟨n0_0, rfl⟩ := Int.eq_ofNat_of_zero_le x0_0_b.1
  have n0_0_lt : n0_0 < 18446744073709551616 := by have := x0_0_b.2; omega
  obtain ⟨x0_1, e0_1, rfl, x0_1_w⟩ := DataW.trod_int Try.underlying25 hy0_1
  simp at e0_1
  subst e0_1
  have x0_1_b := bounds_u64 x0_1_w
  obtain ⟨n0_1, rfl⟩ := Int.eq_ofNat_of_zero_le x0_1_b.1
  have n0_1_lt : n0_1 < 18446744073709551616 := by have := x0_1_b.2; omega
  have struct0 : ∀ (W' : World) (sp : Nat → Bool), DataW.Trod enc Try.prog W' 0 sp true 30 (.agg #[.int .u64 (n0_0 : Int), .int .u64 (n0_1 : Int)]) (.agg [.lit (.int .u64 (n0_0 : Int)), .lit (.int .u64 (n0_1 : Int))]) [] := fun W' sp =>
    shut_agg2 (y0 := (.lit (.int .u64 (n0_0 : Int)), [])) (y1 := (.lit (.int .u64 (n0_1 : Int)), [])) Try.underlying30 (by kernel_rfl) cells30 ⟨1, by simp [DataW.trod, Try.underlying25, x0_0_w]⟩ ⟨1, by simp [DataW.trod, Try.underlying25, x0_1_w]⟩
  obtain ⟨c1_0, c1_1, y1_0, y1_1, m1, rfl, rfl, rfl, hy1_0, hy1_1⟩ := open_agg2 Try.underlying30 (by kernel_rfl) cells30 (hval 1 30 v1 rfl rfl) h1
  obtain ⟨x1_0, e1_0, rfl, x1_0_w⟩ := DataW.trod_int Try.underlying25 hy1_0
  simp at e1_0
  subst e1_0
  have x1_0_b := bounds_u64 x1_0_w
  obtain ⟨n1_0, rfl⟩ := Int.eq_ofNat_of_zero_le x1_0_b.1
  have n1_0_lt : n1_0 < 18446744073709551616 := by have := x1_0_b.2; omega
  obtain ⟨x1_1, e1_1, rfl, x1_1_w⟩ := DataW.trod_int Try.underlying25 hy1_1
  simp at e1_1
  subst e1_1
  have x1_1_b := bounds_u64 x1_1_w
  obtain ⟨n1_1, rfl⟩ := Int.eq_ofNat_of_zero_le x1_1_b.1
  have n1_1_lt : n1_1 < 18446744073709551616 := by have := x1_1_b.2; omega
  have struct1 : ∀ (W' : World) (sp : Nat → Bool), DataW.Trod enc Try.prog W' 0 sp true 30 (.agg #[.int .u64 (n1_0 : Int), .int .u64 (n1_1 : Int)]) (.agg [.lit (.int .u64 (n1_0 : Int)), .lit (.int .u64 (n1_1 : Int))]) [] := fun W' sp =>
    shut_agg2 (y0 := (.lit (.int .u64 (n1_0 : Int)), [])) (y1 := (.lit (.int .u64 (n1_1 : Int)), [])) Try.underlying30 (by kernel_rfl) cells30 ⟨1, by simp [DataW.trod, Try.underlying25, x1_0_w]⟩ ⟨1, by simp [DataW.trod, Try.underlying25, x1_1_w]⟩
  clear hA0 hval0
  simp only [List.append_nil] at hW'
  have eW0 : Wd (n0_0 * 18446744073709551616 + n0_1) = .agg #[V n0_0, V n0_1] := wd_eq _ _ _ (hi_of _ _ n0_1_lt) (lo_of _ _ n0_1_lt)
  have eW1 : Wd (n1_0 * 18446744073709551616 + n1_1) = .agg #[V n1_0, V n1_1] := wd_eq _ _ _ (hi_of _ _ n1_1_lt) (lo_of _ _ n1_1_lt)
  have key := SatOrder_any (n0_0 * 18446744073709551616 + n0_1) (n1_0 * 18446744073709551616 + n1_1) (by unfold N128; omega) (by unfold N128; omega) W
  rw [eW0, eW1] at key
  refine key.mono fun e W' ⟨he, hu⟩ => ?_
  subst he
  exact ⟨_, rfl, _, _, _, [], [], [], hW', trodAll_cons_mk (shut_bool Try.underlying4 _) trodAll_mk0, (trodAll_cons_mk (struct0 _ _) (trodAll_cons_mk (struct1 _ _) trodAll_mk0)), rfl, hu.frame _, fun h => by cases h⟩

/-- THE STATEMENT. -/
theorem said : Rows.SatOrderSaid :=
  OpenClaim.holds_of_wide 7 Try.f7 rfl rfl rfl rfl rfl rfl rfl ⟨rfl, rfl, rfl, rfl, rfl⟩ rfl rfl rfl rfl rfl (by kernel_rfl) Try.func7 (by kernel_rfl)
    (of_decide_eq_true (by kernel_rfl)) (by unfold Func.isWrapper; first | (rw [if_pos (by decide +kernel)]; kernel_rfl) | (rw [if_neg (by decide +kernel)]; exact ⟨rfl, rfl⟩))
    (fun os started H enc _ => lifted os started H enc)
end Go.Proofs.Ytknanpnbpmmlgaa.satOrder

/- The statement PolicyFormSaid: the law PolicyForm returns true for every input, and each argument reads afterwards as it read before. -/
import Derived.Test.YthpcjhihifhmgaaArgAsk6
import Derived.Test.YthpcjhihifhmgaaPlFormLaw
import Derived.Test.YthpcjhihifhmgaaRows
import Derived.ChangeSame
import Derived.JoinedOf
import Derived.JoinedAt
import Derived.RowKit3
import Derived.ProofKit
import Derived.OpenShut
import Derived.Lib.SmallJoins
set_option linter.unusedVariables false
namespace Go.Proofs.Ythpcjhihifhmgaa.policyForm
open Go Go.RowKit Go.ChangeShapes Go.WideShapes Go.ChangeAt Go.Joins

theorem own : ownKnob Try.prog.godebug = none := by kernel_rfl

set_option maxRecDepth 100000 in
theorem lifted (os : Os) (started : os.Started) (H : Type) (enc : TypeId × Value → H) :
    ReturnsInHanded {} Try.checked os 5 .any (Rows.policyFormSpec.pre6 enc Try.prog Try.f5 Rows.policyFormRow.domain false) (Rows.policyFormSpec.post enc Try.prog Try.f5 false true false false) := by
  refine returnsInHanded_of_change (C := Try.checked) own started (by kernel_rfl) Try.func5
    (ChangeSpec.witness6 (enc := enc) (C := Try.checked) false ⟨#[], #[.agg #[.int .i64 0, .int .u64 0, .int .u64 0, .int .u64 0, .int .u64 0, .int .u64 0, .int .u64 0, .int .u64 0, .int .u64 0, .int .u64 0, .int .u64 0, .int .u64 0, .int .u64 0], .int .u64 0, .int .u64 0], []⟩ 8 (by kernel_rfl) (by kernel_rfl) (by kernel_rfl) (by kernel_rfl)) ?_
  intro W base args ds gs before hval0 hW hcnd _
  have hval : ∀ (j : Nat) t v, Try.f5.params[j]? = some t → args[j]? = some v → Value.okWide Try.prog W .any base t v := hval0
  have hW' := hW
  obtain ⟨p, q, hA0, hV, rfl, hfz, hnd⟩ := hW
  have hA : DataW.TrodAll enc Try.prog W 0 (fun _ => true) true Try.f5.params.toList args.toList ds p := hA0
  rw [Try.params5] at hA hval
  obtain ⟨v0, vs0, d0, ds0, p0, q0, hargs, rfl, rfl, h0, r0⟩ := trodAll_cons hA
  obtain ⟨v1, vs1, d1, ds1, p1, q1, rfl, rfl, rfl, h1, r1⟩ := trodAll_cons r0
  obtain ⟨v2, vs2, d2, ds2, p2, q2, rfl, rfl, rfl, h2, r2⟩ := trodAll_cons r1
  obtain ⟨rfl, rfl, rfl⟩ := trodAll_nil r2
  obtain rfl : args = #[v0, v1, v2] := by cases args; simp_all
  obtain ⟨rfl, rfl⟩ := trodVars_none hV
  obtain ⟨x0_0, n0_1, n0_2, n0_3, n0_4, n0_5, n0_6, n0_7, n0_8, n0_9, n0_10, n0_11, n0_12, rfl, rfl, n0_1_lt, n0_2_lt, n0_3_lt, n0_4_lt, n0_5_lt, n0_6_lt, n0_7_lt, n0_8_lt, n0_9_lt, n0_10_lt, n0_11_lt, n0_12_lt, struct0⟩ := open_ask6 (hval 0 31 v0 rfl rfl) h0
  obtain ⟨x1, rfl, rfl, rfl, x1_w⟩ := open_int Try.underlying25 (hval 1 25 v1 rfl rfl) h1
  have x1_b := bounds_u64 x1_w
  obtain ⟨n1, rfl⟩ := Int.eq_ofNat_of_zero_le x1_b.1
  have n1_lt : n1 < 18446744073709551616 := by have := x1_b.2; omega
  obtain ⟨x2, rfl, rfl, rfl, x2_w⟩ := open_int Try.underlying25 (hval 2 25 v2 rfl rfl) h2
  have x2_b := bounds_u64 x2_w
  obtain ⟨n2, rfl⟩ := Int.eq_ofNat_of_zero_le x2_b.1
  have n2_lt : n2 < 18446744073709551616 := by have := x2_b.2; omega
  clear hA0 hval0
  simp only [List.append_nil] at hW'
  have key := PolicyForm_any x0_0 n0_1 n0_2 n0_3 n0_4 n0_5 n0_6 n0_7 n0_8 n0_9 n0_10 n0_11 n0_12 n1 n2 n0_1_lt n0_2_lt n0_3_lt n0_4_lt n0_5_lt n0_6_lt n0_7_lt n0_11_lt n0_12_lt n1_lt n2_lt W
  refine key.mono fun e W' ⟨he, hu⟩ => ?_
  subst he
  exact ⟨_, rfl, _, _, _, [], [], [], hW', trodAll_cons_mk (shut_bool Try.underlying4 _) trodAll_mk0, (trodAll_cons_mk (struct0 _ _ _ _) (trodAll_cons_mk (shut_int Try.underlying25 x1_w) (trodAll_cons_mk (shut_int Try.underlying25 x2_w) trodAll_mk0))), rfl, hu.frame _, fun h => by cases h⟩

/-- THE STATEMENT. -/
theorem said : Rows.PolicyFormSaid :=
  OpenClaim.holds_of_wide 5 Try.f5 rfl rfl rfl rfl rfl rfl rfl ⟨rfl, rfl, rfl, rfl, rfl⟩ rfl rfl rfl rfl rfl (by kernel_rfl) Try.func5 (by kernel_rfl)
    (of_decide_eq_true (by kernel_rfl)) (by unfold Func.isWrapper; first | (rw [if_pos (by decide +kernel)]; kernel_rfl) | (rw [if_neg (by decide +kernel)]; exact ⟨rfl, rfl⟩))
    (fun os started H enc _ => lifted os started H enc)
end Go.Proofs.Ythpcjhihifhmgaa.policyForm

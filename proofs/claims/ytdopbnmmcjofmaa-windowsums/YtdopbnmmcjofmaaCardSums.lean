/- The statement WindowSumsSaid: for every limit, span and row of events the law WindowSums returns true, and the arguments read as they did. -/
import Derived.Test.YtdopbnmmcjofmaaArgEvs
import Derived.Test.YtdopbnmmcjofmaaRows
import Derived.ChangeSame
import Derived.JoinedOf
import Derived.JoinedAt
import Derived.RowKit3
import Derived.ProofKit
import Derived.OpenShut
import Derived.Lib.SmallJoins
set_option linter.unusedVariables false
namespace Go.Proofs.Ytdopbnmmcjofmaa.windowSums
open Go Go.RowKit Go.ChangeShapes Go.WideShapes Go.ChangeAt Go.Joins

theorem own : ownKnob Try.prog.godebug = none := by kernel_rfl

set_option maxRecDepth 100000 in
theorem lifted (os : Os) (started : os.Started) (H : Type) (enc : TypeId × Value → H) :
    ReturnsInHanded {} Try.checked os 7 .any (Rows.windowSumsSpec.pre6 enc Try.prog Try.f7 Rows.windowSumsRow.domain false) (Rows.windowSumsSpec.post enc Try.prog Try.f7 false true false false) := by
  refine returnsInHanded_of_change (C := Try.checked) own started (by kernel_rfl) Try.func7
    (ChangeSpec.witness6 (enc := enc) (C := Try.checked) false ⟨#[], #[.int .u64 0, .int .u64 0, .slice none 0 0], []⟩ 8 (by kernel_rfl) (by kernel_rfl) (by kernel_rfl) (by kernel_rfl)) ?_
  intro W base args ds gs before hval0 hW hcnd _
  have hval : ∀ (j : Nat) t v, Try.f7.params[j]? = some t → args[j]? = some v → Value.okWide Try.prog W .any base t v := hval0
  have hW' := hW
  obtain ⟨p, q, hA0, hV, rfl, hfz, hnd⟩ := hW
  have hA : DataW.TrodAll enc Try.prog W 0 (fun _ => true) true Try.f7.params.toList args.toList ds p := hA0
  rw [Try.params7] at hA hval
  obtain ⟨v0, vs0, d0, ds0, p0, q0, hargs, rfl, rfl, h0, r0⟩ := trodAll_cons hA
  obtain ⟨v1, vs1, d1, ds1, p1, q1, rfl, rfl, rfl, h1, r1⟩ := trodAll_cons r0
  obtain ⟨v2, vs2, d2, ds2, p2, q2, rfl, rfl, rfl, h2, r2⟩ := trodAll_cons r1
  obtain ⟨rfl, rfl, rfl⟩ := trodAll_nil r2
  obtain rfl : args = #[v0, v1, v2] := by cases args; simp_all
  obtain ⟨rfl, rfl⟩ := trodVars_none hV
  obtain ⟨x0, rfl, rfl, rfl, x0_w⟩ := open_int Try.underlying25 (hval 0 25 v0 rfl rfl) h0
  have x0_b := bounds_u64 x0_w
  obtain ⟨n0, rfl⟩ := Int.eq_ofNat_of_zero_le x0_b.1
  have n0_lt : n0 < 18446744073709551616 := by have := x0_b.2; omega
  obtain ⟨x1, rfl, rfl, rfl, x1_w⟩ := open_int Try.underlying25 (hval 1 25 v1 rfl rfl) h1
  have x1_b := bounds_u64 x1_w
  obtain ⟨n1, rfl⟩ := Int.eq_ofNat_of_zero_le x1_b.1
  have n1_lt : n1 < 18446744073709551616 := by have := x1_b.2; omega
  obtain ⟨a2, l2, c2, rfl⟩ := okWide_slice Try.underlying36 (hval 2 36 v2 rfl rfl)
  obtain ⟨qs2, hq2, hl2, hok2⟩ := open_evs ⟨_, _, _, rfl⟩ h2
  have hlt2 : ∀ y ∈ p2, y.block < W.heap.size := fun y hy => by simpa using hW'.lt y (by simp [hy])
  clear hA0 hval0
  have key := WindowSums_any n0 n1 _ qs2 W n0_lt n1_lt hq2 hl2 hok2
  refine key.mono fun e W' ⟨he, hu⟩ => ?_
  subst he
  exact ⟨_, rfl, _, _, _, [], ([] ++ ([] ++ (p2 ++ []))), [], hW', trodAll_cons_mk (shut_bool Try.underlying4 _) trodAll_mk0, (trodAll_cons_mk (shut_int Try.underlying25 x0_w) (trodAll_cons_mk (shut_int Try.underlying25 x1_w) (trodAll_cons_mk (Below.trod Try.laidOutE Try.readableEvs (of_decide_eq_true (by kernel_rfl)) h2 hu hlt2) trodAll_mk0))), rfl, hu.frame _, fun h => by cases h⟩

/-- THE STATEMENT. -/
theorem said : Rows.WindowSumsSaid :=
  OpenClaim.holds_of_wide 7 Try.f7 rfl rfl rfl rfl rfl rfl rfl ⟨rfl, rfl, rfl, rfl, rfl⟩ rfl rfl rfl rfl rfl (by kernel_rfl) Try.func7 (by kernel_rfl)
    (of_decide_eq_true (by kernel_rfl)) (by unfold Func.isWrapper; first | (rw [if_pos (by decide +kernel)]; kernel_rfl) | (rw [if_neg (by decide +kernel)]; exact ⟨rfl, rfl⟩))
    (fun os started H enc _ => lifted os started H enc)
end Go.Proofs.Ytdopbnmmcjofmaa.windowSums

/- An Ask by value among the arguments (a policy, two levels, two numbers: structs within a struct), its cells, a level by value; each reads so ever after. -/
import Derived.Test.YthpcjhihifhmgaaPlFaceLaw
import Derived.Test.YthpcjhihifhmgaaRows
import Derived.ChangeSame
import Derived.OpenShut
import Derived.ProofKit
import Derived.Lib.SmallJoins
set_option linter.unusedVariables false
namespace Go.Proofs.Ythpcjhihifhmgaa
open Go Go.RowKit Go.ChangeShapes Go.WideShapes Go.Joins

theorem Try.cellsAsk6 : Try.prog.cellsOf 31 = 13 := by kernel_rfl
theorem Try.cellsPol : Try.prog.cellsOf 27 = 5 := by kernel_rfl
theorem Try.cellsLev : Try.prog.cellsOf 29 = 3 := by kernel_rfl
theorem Try.cellsU64 : Try.prog.cellsOf 25 = 1 := by kernel_rfl
theorem Try.cellsInt : Try.prog.cellsOf 3 = 1 := by kernel_rfl

theorem lit_u64 {H : Type} {enc : TypeId × Value → H} {W : World} {base : Nat} {spare : Nat → Bool} {held : Bool} {n : Nat} {c : Value} {x : DataW H × List MemPlace}
    (h : DataW.trod enc Try.prog W base spare held n 25 [c] = some x) : ∃ k : Nat, c = V k ∧ x = (.lit (.int .u64 (k : Int)), []) ∧ N64 k ∧ ∀ (W' : World) (b' : Nat) (sp : Nat → Bool) (hd : Bool) (m : Nat), DataW.trod enc Try.prog W' b' sp hd (m + 1) 25 [V k] = some (.lit (.int .u64 (k : Int)), []) := by
  obtain ⟨k, e, rfl, hw⟩ := DataW.trod_int Try.underlying25 h
  simp at e
  subst e
  have hb := bounds_u64 hw
  obtain ⟨j, rfl⟩ := Int.eq_ofNat_of_zero_le hb.1
  exact ⟨j, rfl, rfl, by unfold N64; have := hb.2; omega, fun W' b' sp hd m => by simp [DataW.trod, Try.underlying25, hw]⟩

theorem lit_int {H : Type} {enc : TypeId × Value → H} {W : World} {base : Nat} {spare : Nat → Bool} {held : Bool} {n : Nat} {c : Value} {x : DataW H × List MemPlace}
    (h : DataW.trod enc Try.prog W base spare held n 3 [c] = some x) : ∃ k : Int, c = .int .i64 k ∧ x = (.lit (.int .i64 k), []) ∧ ∀ (W' : World) (b' : Nat) (sp : Nat → Bool) (hd : Bool) (m : Nat), DataW.trod enc Try.prog W' b' sp hd (m + 1) 3 [.int .i64 k] = some (.lit (.int .i64 k), []) := by
  obtain ⟨k, e, rfl, hw⟩ := DataW.trod_int Try.underlying3 h
  simp at e
  subst e
  exact ⟨k, rfl, rfl, fun W' b' sp hd m => by simp [DataW.trod, Try.underlying3, hw]⟩

/-- The five cells of a policy. -/
theorem open_pol_cells {H : Type} {enc : TypeId × Value → H} {W : World} {base : Nat} {spare : Nat → Bool} {held : Bool} {n : Nat} {cs : List Value} {x : DataW H × List MemPlace}
    (h : DataW.trod enc Try.prog W base spare held n 27 cs = some x) :
    ∃ (q : Int) (a b c d : Nat), cs = [.int .i64 q, V a, V b, V c, V d] ∧ N64 a ∧ N64 b ∧ N64 c ∧ N64 d ∧ x.2 = [] ∧
      ∀ (W' : World) (b' : Nat) (sp : Nat → Bool) (hd : Bool) (m : Nat), DataW.trod enc Try.prog W' b' sp hd (m + 2) 27 cs = some x := by
  obtain ⟨xs, m, _, rfl, hl, hlen, hf⟩ := DataW.trod_struct Try.underlying27 h
  rw [Try.cellsPol] at hl
  match cs, hl with
  | [c0, c1, c2, c3, c4], _ =>
    match xs, hlen with
    | [y0, y1, y2, y3, y4], _ =>
      have f0 : DataW.trod enc Try.prog W base spare held m 3 (([c0, c1, c2, c3, c4].drop 0).take (Try.prog.cellsOf 3)) = some y0 := hf 0 _ rfl
      have f1 : DataW.trod enc Try.prog W base spare held m 25 (([c0, c1, c2, c3, c4].drop 1).take (Try.prog.cellsOf 25)) = some y1 := hf 1 _ rfl
      have f2 : DataW.trod enc Try.prog W base spare held m 25 (([c0, c1, c2, c3, c4].drop 2).take (Try.prog.cellsOf 25)) = some y2 := hf 2 _ rfl
      have f3 : DataW.trod enc Try.prog W base spare held m 25 (([c0, c1, c2, c3, c4].drop 3).take (Try.prog.cellsOf 25)) = some y3 := hf 3 _ rfl
      have f4 : DataW.trod enc Try.prog W base spare held m 25 (([c0, c1, c2, c3, c4].drop 4).take (Try.prog.cellsOf 25)) = some y4 := hf 4 _ rfl
      rw [Try.cellsU64] at f1 f2 f3 f4
      rw [Try.cellsInt] at f0
      simp at f0 f1 f2 f3 f4
      obtain ⟨k0, rfl, rfl, t0⟩ := lit_int f0
      obtain ⟨k1, rfl, rfl, l1, t1⟩ := lit_u64 f1
      obtain ⟨k2, rfl, rfl, l2, t2⟩ := lit_u64 f2
      obtain ⟨k3, rfl, rfl, l3, t3⟩ := lit_u64 f3
      obtain ⟨k4, rfl, rfl, l4, t4⟩ := lit_u64 f4
      refine ⟨k0, k1, k2, k3, k4, rfl, l1, l2, l3, l4, rfl, fun W' b' sp hd m => ?_⟩
      refine trod_struct_mk Try.underlying27 (by rw [Try.cellsPol]; rfl) ?_
      simp only [List.mapM_cons, List.mapM_nil, Try.cellsU64, Try.cellsInt]
      simp [t0 W' b' sp hd m, t1 W' b' sp hd m, t2 W' b' sp hd m, t3 W' b' sp hd m, t4 W' b' sp hd m]

/-- The three cells of a level. -/
theorem open_lev_cells {H : Type} {enc : TypeId × Value → H} {W : World} {base : Nat} {spare : Nat → Bool} {held : Bool} {n : Nat} {cs : List Value} {x : DataW H × List MemPlace}
    (h : DataW.trod enc Try.prog W base spare held n 29 cs = some x) :
    ∃ (a b c : Nat), cs = [V a, V b, V c] ∧ N64 a ∧ N64 b ∧ N64 c ∧ x.2 = [] ∧
      ∀ (W' : World) (b' : Nat) (sp : Nat → Bool) (hd : Bool) (m : Nat), DataW.trod enc Try.prog W' b' sp hd (m + 2) 29 cs = some x := by
  obtain ⟨xs, m, _, rfl, hl, hlen, hf⟩ := DataW.trod_struct Try.underlying29 h
  rw [Try.cellsLev] at hl
  match cs, hl with
  | [c0, c1, c2], _ =>
    match xs, hlen with
    | [y0, y1, y2], _ =>
      have f0 : DataW.trod enc Try.prog W base spare held m 25 (([c0, c1, c2].drop 0).take (Try.prog.cellsOf 25)) = some y0 := hf 0 _ rfl
      have f1 : DataW.trod enc Try.prog W base spare held m 25 (([c0, c1, c2].drop 1).take (Try.prog.cellsOf 25)) = some y1 := hf 1 _ rfl
      have f2 : DataW.trod enc Try.prog W base spare held m 25 (([c0, c1, c2].drop 2).take (Try.prog.cellsOf 25)) = some y2 := hf 2 _ rfl
      rw [Try.cellsU64] at f0 f1 f2
      simp at f0 f1 f2
      obtain ⟨k0, rfl, rfl, l0, t0⟩ := lit_u64 f0
      obtain ⟨k1, rfl, rfl, l1, t1⟩ := lit_u64 f1
      obtain ⟨k2, rfl, rfl, l2, t2⟩ := lit_u64 f2
      refine ⟨k0, k1, k2, rfl, l0, l1, l2, rfl, fun W' b' sp hd m => ?_⟩
      refine trod_struct_mk Try.underlying29 (by rw [Try.cellsLev]; rfl) ?_
      simp only [List.mapM_cons, List.mapM_nil, Try.cellsU64]
      simp [t0 W' b' sp hd m, t1 W' b' sp hd m, t2 W' b' sp hd m]

/-- The thirteen cells of an Ask. -/
theorem open_ask6_cells {H : Type} {enc : TypeId × Value → H} {W : World} {base : Nat} {spare : Nat → Bool} {held : Bool} {n : Nat} {cs : List Value} {x : DataW H × List MemPlace}
    (h : DataW.trod enc Try.prog W base spare held n 31 cs = some x) :
    ∃ (k : Int) (g s l p t i c t' i' c' now n : Nat), cs = [.int .i64 k, V g, V s, V l, V p, V t, V i, V c, V t', V i', V c', V now, V n] ∧ N64 g ∧ N64 s ∧ N64 l ∧ N64 p ∧ N64 t ∧ N64 i ∧ N64 c ∧ N64 t' ∧ N64 i' ∧ N64 c' ∧ N64 now ∧ N64 n ∧ x.2 = [] ∧
      ∀ (W' : World) (b' : Nat) (sp : Nat → Bool) (hd : Bool), DataW.trod enc Try.prog W' b' sp hd 3 31 cs = some x := by
  obtain ⟨xs, m, _, rfl, hl, hlen, hf⟩ := DataW.trod_struct Try.underlying31 h
  rw [Try.cellsAsk6] at hl
  match cs, hl with
  | [c0, c1, c2, c3, c4, c5, c6, c7, c8, c9, c10, c11, c12], _ =>
    match xs, hlen with
    | [y0, y1, y2, y3, y4], _ =>
      have f0 : DataW.trod enc Try.prog W base spare held m 27 (([c0, c1, c2, c3, c4, c5, c6, c7, c8, c9, c10, c11, c12].drop 0).take (Try.prog.cellsOf 27)) = some y0 := hf 0 _ rfl
      have f1 : DataW.trod enc Try.prog W base spare held m 29 (([c0, c1, c2, c3, c4, c5, c6, c7, c8, c9, c10, c11, c12].drop 5).take (Try.prog.cellsOf 29)) = some y1 := hf 1 _ rfl
      have f2 : DataW.trod enc Try.prog W base spare held m 29 (([c0, c1, c2, c3, c4, c5, c6, c7, c8, c9, c10, c11, c12].drop 8).take (Try.prog.cellsOf 29)) = some y2 := hf 2 _ rfl
      have f3 : DataW.trod enc Try.prog W base spare held m 25 (([c0, c1, c2, c3, c4, c5, c6, c7, c8, c9, c10, c11, c12].drop 11).take (Try.prog.cellsOf 25)) = some y3 := hf 3 _ rfl
      have f4 : DataW.trod enc Try.prog W base spare held m 25 (([c0, c1, c2, c3, c4, c5, c6, c7, c8, c9, c10, c11, c12].drop 12).take (Try.prog.cellsOf 25)) = some y4 := hf 4 _ rfl
      rw [Try.cellsU64] at f3 f4
      rw [Try.cellsLev] at f1 f2
      rw [Try.cellsPol] at f0
      simp at f0 f1 f2 f3 f4
      obtain ⟨k0, k1, k2, k3, k4, e0, l1, l2, l3, l4, r0, t0⟩ := open_pol_cells f0
      obtain ⟨k5, k6, k7, e1, l5, l6, l7, r1, t1⟩ := open_lev_cells f1
      obtain ⟨k8, k9, k10, e2, l8, l9, l10, r2, t2⟩ := open_lev_cells f2
      obtain ⟨k11, rfl, rfl, l11, t3⟩ := lit_u64 f3
      obtain ⟨k12, rfl, rfl, l12, t4⟩ := lit_u64 f4
      simp only [List.cons.injEq, and_true] at e0 e1 e2
      obtain ⟨rfl, rfl, rfl, rfl, rfl⟩ := e0
      obtain ⟨rfl, rfl, rfl⟩ := e1
      obtain ⟨rfl, rfl, rfl⟩ := e2
      obtain ⟨z0, q0⟩ := y0
      obtain ⟨z1, q1⟩ := y1
      obtain ⟨z2, q2⟩ := y2
      simp only at r0 r1 r2
      subst r0 r1 r2
      refine ⟨k0, k1, k2, k3, k4, k5, k6, k7, k8, k9, k10, k11, k12, rfl, l1, l2, l3, l4, l5, l6, l7, l8, l9, l10, l11, l12, rfl, fun W' b' sp hd => ?_⟩
      refine trod_struct_mk Try.underlying31 (by rw [Try.cellsAsk6]; rfl) ?_
      simp only [List.mapM_cons, List.mapM_nil, Try.cellsU64, Try.cellsLev, Try.cellsPol]
      simp [t0 W' b' sp hd 0, t1 W' b' sp hd 0, t2 W' b' sp hd 0, t3 W' b' sp hd 1, t4 W' b' sp hd 1]

theorem open_ask6 {H : Type} {enc : TypeId × Value → H} {W : World} {base : Nat} {spare : Nat → Bool} {held : Bool} {r : Reach} {b0 : Nat} {v : Value} {d : DataW H} {p : List MemPlace}
    (hv : Value.okWide Try.prog W r b0 31 v) (h : DataW.Trod enc Try.prog W base spare held 31 v d p) :
    ∃ (k : Int) (g s l p' t i c t' i' c' now n : Nat), v = Ak k g s l p' t i c t' i' c' now n ∧ p = [] ∧ N64 g ∧ N64 s ∧ N64 l ∧ N64 p' ∧ N64 t ∧ N64 i ∧ N64 c ∧ N64 t' ∧ N64 i' ∧ N64 c' ∧ N64 now ∧ N64 n ∧
      ∀ (W' : World) (b' : Nat) (sp : Nat → Bool) (hd : Bool), DataW.Trod enc Try.prog W' b' sp hd 31 v d p := by
  obtain ⟨cs, rfl, hsz⟩ := okWide_struct Try.underlying31 hv
  obtain ⟨fuel, hf⟩ := h
  obtain ⟨k, g, s, l, p', t, i, c, t', i', c', now, n, hcs, l1, l2, l3, l4, l5, l6, l7, l8, l9, l10, l11, l12, hp, hall⟩ := open_ask6_cells hf
  simp only [Value.cells] at hcs
  have e : cs = #[.int .i64 k, V g, V s, V l, V p', V t, V i, V c, V t', V i', V c', V now, V n] := by
    obtain ⟨l⟩ := cs
    simp at hcs
    simp [hcs]
  exact ⟨k, g, s, l, p', t, i, c, t', i', c', now, n, by rw [e], hp, l1, l2, l3, l4, l5, l6, l7, l8, l9, l10, l11, l12, fun W' b' sp hd => ⟨3, hall W' b' sp hd⟩⟩

theorem open_lev {H : Type} {enc : TypeId × Value → H} {W : World} {base : Nat} {spare : Nat → Bool} {held : Bool} {r : Reach} {b0 : Nat} {v : Value} {d : DataW H} {p : List MemPlace}
    (hv : Value.okWide Try.prog W r b0 29 v) (h : DataW.Trod enc Try.prog W base spare held 29 v d p) :
    ∃ (t i c : Nat), v = Lv t i c ∧ p = [] ∧ N64 t ∧ N64 i ∧ N64 c ∧
      ∀ (W' : World) (b' : Nat) (sp : Nat → Bool) (hd : Bool), DataW.Trod enc Try.prog W' b' sp hd 29 v d p := by
  obtain ⟨cs, rfl, hsz⟩ := okWide_struct Try.underlying29 hv
  obtain ⟨fuel, hf⟩ := h
  obtain ⟨t, i, c, hcs, l1, l2, l3, hp, hall⟩ := open_lev_cells hf
  simp only [Value.cells] at hcs
  have e : cs = #[V t, V i, V c] := by
    obtain ⟨l⟩ := cs
    simp at hcs
    simp [hcs]
  exact ⟨t, i, c, by rw [e], hp, l1, l2, l3, fun W' b' sp hd => ⟨2, hall W' b' sp hd 0⟩⟩
end Go.Proofs.Ythpcjhihifhmgaa

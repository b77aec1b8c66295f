/- An Op by value among the arguments, and the cells of an Op: a kind and six numbers; and it reads so ever after. -/
import Derived.Test.YtdopbnmmcjofmaaWnLives
import Derived.Test.YtdopbnmmcjofmaaRows
import Derived.ChangeSame
import Derived.OpenShut
import Derived.ProofKit
import Derived.Lib.SmallJoins
set_option linter.unusedVariables false
namespace Go.Proofs.Ytdopbnmmcjofmaa
open Go Go.RowKit Go.ChangeShapes Go.WideShapes Go.Joins

theorem Try.cellsOp : Try.prog.cellsOf 27 = 7 := by kernel_rfl
theorem Try.cellsU64 : Try.prog.cellsOf 25 = 1 := by kernel_rfl
theorem Try.cellsInt : Try.prog.cellsOf 3 = 1 := by kernel_rfl

theorem lit_u64 {H : Type} {enc : TypeId × Value → H} {W : World} {base : Nat} {spare : Nat → Bool} {held : Bool} {n : Nat} {c : Value} {x : DataW H × List MemPlace}
    (h : DataW.trod enc Try.prog W base spare held n 25 [c] = some x) : ∃ k : Nat, c = V k ∧ x = (.lit (.int .u64 (k : Int)), []) ∧ N64 k ∧ ∀ (W' : World) (b' : Nat) (sp : Nat → Bool) (hd : Bool) (m : Nat), DataW.trod enc Try.prog W' b' sp hd (m + 1) 25 [V k] = some (.lit (.int .u64 (k : Int)), []) := by
  obtain ⟨k, e, rfl, hw⟩ := DataW.trod_int Try.underlying25 h
  simp at e
  subst e
  have hb := bounds_u64 hw
  obtain ⟨j, rfl⟩ := Int.eq_ofNat_of_zero_le hb.1
  exact ⟨j, rfl, rfl, by unfold N64; have := hb.2; omega, fun W' b' sp hd m => by simp [DataW.trod, Try.underlying25, hw]⟩

theorem lit_int {H : Type} {enc : TypeId × Value → H} {W : World} {base : Nat} {spare : Nat → Bool} {held : Bool} {n : Nat} {c : Value} {x : DataW H × List MemPlace}
    (h : DataW.trod enc Try.prog W base spare held n 3 [c] = some x) : ∃ k : Int, c = .int .i64 k ∧ x = (.lit (.int .i64 k), []) ∧ ∀ (W' : World) (b' : Nat) (sp : Nat → Bool) (hd : Bool) (m : Nat), DataW.trod enc Try.prog W' b' sp hd (m + 1) 3 [.int .i64 k] = some (.lit (.int .i64 k), []) := by
  obtain ⟨k, e, rfl, hw⟩ := DataW.trod_int Try.underlying3 h
  simp at e
  subst e
  exact ⟨k, rfl, rfl, fun W' b' sp hd m => by simp [DataW.trod, Try.underlying3, hw]⟩

/-- The seven cells of an Op. -/
theorem open_op_cells {H : Type} {enc : TypeId × Value → H} {W : World} {base : Nat} {spare : Nat → Bool} {held : Bool} {n : Nat} {cs : List Value} {x : DataW H × List MemPlace}
    (h : DataW.trod enc Try.prog W base spare held n 27 cs = some x) :
    ∃ (q : Int) (a b c d e f : Nat), cs = [.int .i64 q, V a, V b, V c, V d, V e, V f] ∧ N64 a ∧ N64 b ∧ N64 c ∧ N64 d ∧ N64 e ∧ N64 f ∧ x.2 = [] ∧
      ∀ (W' : World) (b' : Nat) (sp : Nat → Bool) (hd : Bool), DataW.trod enc Try.prog W' b' sp hd 2 27 cs = some x := by
  obtain ⟨xs, m, _, rfl, hl, hlen, hf⟩ := DataW.trod_struct Try.underlying27 h
  rw [Try.cellsOp] at hl
  match cs, hl with
  | [c0, c1, c2, c3, c4, c5, c6], _ =>
    match xs, hlen with
    | [y0, y1, y2, y3, y4, y5, y6], _ =>
      have f0 : DataW.trod enc Try.prog W base spare held m 3 (([c0, c1, c2, c3, c4, c5, c6].drop 0).take (Try.prog.cellsOf 3)) = some y0 := hf 0 _ rfl
      have f1 : DataW.trod enc Try.prog W base spare held m 25 (([c0, c1, c2, c3, c4, c5, c6].drop 1).take (Try.prog.cellsOf 25)) = some y1 := hf 1 _ rfl
      have f2 : DataW.trod enc Try.prog W base spare held m 25 (([c0, c1, c2, c3, c4, c5, c6].drop 2).take (Try.prog.cellsOf 25)) = some y2 := hf 2 _ rfl
      have f3 : DataW.trod enc Try.prog W base spare held m 25 (([c0, c1, c2, c3, c4, c5, c6].drop 3).take (Try.prog.cellsOf 25)) = some y3 := hf 3 _ rfl
      have f4 : DataW.trod enc Try.prog W base spare held m 25 (([c0, c1, c2, c3, c4, c5, c6].drop 4).take (Try.prog.cellsOf 25)) = some y4 := hf 4 _ rfl
      have f5 : DataW.trod enc Try.prog W base spare held m 25 (([c0, c1, c2, c3, c4, c5, c6].drop 5).take (Try.prog.cellsOf 25)) = some y5 := hf 5 _ rfl
      have f6 : DataW.trod enc Try.prog W base spare held m 25 (([c0, c1, c2, c3, c4, c5, c6].drop 6).take (Try.prog.cellsOf 25)) = some y6 := hf 6 _ rfl
      rw [Try.cellsU64] at f1 f2 f3 f4 f5 f6
      rw [Try.cellsInt] at f0
      simp at f0 f1 f2 f3 f4 f5 f6
      obtain ⟨k0, rfl, rfl, t0⟩ := lit_int f0
      obtain ⟨k1, rfl, rfl, l1, t1⟩ := lit_u64 f1
      obtain ⟨k2, rfl, rfl, l2, t2⟩ := lit_u64 f2
      obtain ⟨k3, rfl, rfl, l3, t3⟩ := lit_u64 f3
      obtain ⟨k4, rfl, rfl, l4, t4⟩ := lit_u64 f4
      obtain ⟨k5, rfl, rfl, l5, t5⟩ := lit_u64 f5
      obtain ⟨k6, rfl, rfl, l6, t6⟩ := lit_u64 f6
      refine ⟨k0, k1, k2, k3, k4, k5, k6, rfl, l1, l2, l3, l4, l5, l6, rfl, fun W' b' sp hd => ?_⟩
      refine trod_struct_mk Try.underlying27 (by rw [Try.cellsOp]; rfl) ?_
      simp only [List.mapM_cons, List.mapM_nil, Try.cellsU64, Try.cellsInt]
      simp [t0 W' b' sp hd 0, t1 W' b' sp hd 0, t2 W' b' sp hd 0, t3 W' b' sp hd 0, t4 W' b' sp hd 0, t5 W' b' sp hd 0, t6 W' b' sp hd 0]

theorem open_op {H : Type} {enc : TypeId × Value → H} {W : World} {base : Nat} {spare : Nat → Bool} {held : Bool} {r : Reach} {b0 : Nat} {v : Value} {d : DataW H} {p : List MemPlace}
    (hv : Value.okWide Try.prog W r b0 27 v) (h : DataW.Trod enc Try.prog W base spare held 27 v d p) :
    ∃ (q : Int) (a b c d' e f : Nat), v = Ow q a b c d' e f ∧ p = [] ∧ N64 a ∧ N64 b ∧ N64 c ∧ N64 d' ∧ N64 e ∧ N64 f ∧
      ∀ (W' : World) (b' : Nat) (sp : Nat → Bool) (hd : Bool), DataW.Trod enc Try.prog W' b' sp hd 27 v d p := by
  obtain ⟨cs, rfl, hsz⟩ := okWide_struct Try.underlying27 hv
  obtain ⟨fuel, hf⟩ := h
  obtain ⟨q, a, b, c, d', e, f, hcs, la, lb, lc, ld, le, lf, hp, hall⟩ := open_op_cells hf
  simp only [Value.cells] at hcs
  have e : cs = #[.int .i64 q, V a, V b, V c, V d', V e, V f] := by
    obtain ⟨l⟩ := cs
    simp at hcs
    simp [hcs]
  exact ⟨q, a, b, c, d', _, f, by rw [e], hp, la, lb, lc, ld, le, lf, fun W' b' sp hd => ⟨2, hall W' b' sp hd⟩⟩
end Go.Proofs.Ytdopbnmmcjofmaa

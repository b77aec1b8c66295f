/- An Ask by value among the arguments: its five numbers; and it reads so ever after. -/
import Derived.Test.YtipbpppdifplbaaGcLives
import Derived.Test.YtipbpppdifplbaaRows
import Derived.ChangeSame
import Derived.OpenShut
import Derived.ProofKit
import Derived.Lib.SmallJoins
set_option linter.unusedVariables false
namespace Go.Proofs.Ytipbpppdifplbaa
open Go Go.RowKit Go.ChangeShapes Go.WideShapes Go.Joins

theorem Try.cellsAsk : Try.prog.cellsOf 26 = 5 := by kernel_rfl
theorem Try.cellsU64 : Try.prog.cellsOf 24 = 1 := by kernel_rfl

theorem lit_u64 {H : Type} {enc : TypeId × Value → H} {W : World} {base : Nat} {spare : Nat → Bool} {held : Bool} {n : Nat} {c : Value} {x : DataW H × List MemPlace}
    (h : DataW.trod enc Try.prog W base spare held n 24 [c] = some x) : ∃ k : Nat, c = V k ∧ x = (.lit (.int .u64 (k : Int)), []) ∧ N64 k ∧ ∀ (W' : World) (b' : Nat) (sp : Nat → Bool) (hd : Bool) (m : Nat), DataW.trod enc Try.prog W' b' sp hd (m + 1) 24 [V k] = some (.lit (.int .u64 (k : Int)), []) := by
  obtain ⟨k, e, rfl, hw⟩ := DataW.trod_int Try.underlying24 h
  simp at e
  subst e
  have hb := bounds_u64 hw
  obtain ⟨j, rfl⟩ := Int.eq_ofNat_of_zero_le hb.1
  exact ⟨j, rfl, rfl, by unfold N64; have := hb.2; omega, fun W' b' sp hd m => by simp [DataW.trod, Try.underlying24, hw]⟩

/-- The five cells of an Ask. -/
theorem open_ask_cells {H : Type} {enc : TypeId × Value → H} {W : World} {base : Nat} {spare : Nat → Bool} {held : Bool} {n : Nat} {cs : List Value} {x : DataW H × List MemPlace}
    (h : DataW.trod enc Try.prog W base spare held n 26 cs = some x) :
    ∃ g s t w k : Nat, cs = [V g, V s, V t, V w, V k] ∧ N64 g ∧ N64 s ∧ N64 t ∧ N64 w ∧ N64 k ∧ x.2 = [] ∧
      ∀ (W' : World) (b' : Nat) (sp : Nat → Bool) (hd : Bool), DataW.trod enc Try.prog W' b' sp hd 2 26 cs = some x := by
  obtain ⟨xs, m, _, rfl, hl, hlen, hf⟩ := DataW.trod_struct Try.underlying26 h
  rw [Try.cellsAsk] at hl
  match cs, hl with
  | [c0, c1, c2, c3, c4], _ =>
    match xs, hlen with
    | [y0, y1, y2, y3, y4], _ =>
      have f0 : DataW.trod enc Try.prog W base spare held m 24 (([c0, c1, c2, c3, c4].drop 0).take (Try.prog.cellsOf 24)) = some y0 := hf 0 _ rfl
      have f1 : DataW.trod enc Try.prog W base spare held m 24 (([c0, c1, c2, c3, c4].drop 1).take (Try.prog.cellsOf 24)) = some y1 := hf 1 _ rfl
      have f2 : DataW.trod enc Try.prog W base spare held m 24 (([c0, c1, c2, c3, c4].drop 2).take (Try.prog.cellsOf 24)) = some y2 := hf 2 _ rfl
      have f3 : DataW.trod enc Try.prog W base spare held m 24 (([c0, c1, c2, c3, c4].drop 3).take (Try.prog.cellsOf 24)) = some y3 := hf 3 _ rfl
      have f4 : DataW.trod enc Try.prog W base spare held m 24 (([c0, c1, c2, c3, c4].drop 4).take (Try.prog.cellsOf 24)) = some y4 := hf 4 _ rfl
      rw [Try.cellsU64] at f0 f1 f2 f3 f4
      simp at f0 f1 f2 f3 f4
      obtain ⟨k0, rfl, rfl, l0, t0⟩ := lit_u64 f0
      obtain ⟨k1, rfl, rfl, l1, t1⟩ := lit_u64 f1
      obtain ⟨k2, rfl, rfl, l2, t2⟩ := lit_u64 f2
      obtain ⟨k3, rfl, rfl, l3, t3⟩ := lit_u64 f3
      obtain ⟨k4, rfl, rfl, l4, t4⟩ := lit_u64 f4
      refine ⟨k0, k1, k2, k3, k4, rfl, l0, l1, l2, l3, l4, rfl, fun W' b' sp hd => ?_⟩
      refine trod_struct_mk Try.underlying26 (by rw [Try.cellsAsk]; rfl) ?_
      simp only [List.mapM_cons, List.mapM_nil, Try.cellsU64]
      simp [t0 W' b' sp hd 0, t1 W' b' sp hd 0, t2 W' b' sp hd 0, t3 W' b' sp hd 0, t4 W' b' sp hd 0]

theorem open_ask {H : Type} {enc : TypeId × Value → H} {W : World} {base : Nat} {spare : Nat → Bool} {held : Bool} {r : Reach} {b0 : Nat} {v : Value} {d : DataW H} {p : List MemPlace}
    (hv : Value.okWide Try.prog W r b0 26 v) (h : DataW.Trod enc Try.prog W base spare held 26 v d p) :
    ∃ g s t w k : Nat, v = Ak g s t w k ∧ p = [] ∧ N64 g ∧ N64 s ∧ N64 t ∧ N64 w ∧ N64 k ∧
      ∀ (W' : World) (b' : Nat) (sp : Nat → Bool) (hd : Bool), DataW.Trod enc Try.prog W' b' sp hd 26 v d p := by
  obtain ⟨cs, rfl, hsz⟩ := okWide_struct Try.underlying26 hv
  obtain ⟨fuel, hf⟩ := h
  obtain ⟨g, s, t, w, k, hcs, lg, ls, lt, lw, lk, hp, hall⟩ := open_ask_cells hf
  simp only [Value.cells] at hcs
  have e : cs = #[V g, V s, V t, V w, V k] := by
    obtain ⟨l⟩ := cs
    simp at hcs
    simp [hcs]
  exact ⟨g, s, t, w, k, by rw [e], hp, lg, ls, lt, lw, lk, fun W' b' sp hd => ⟨2, hall W' b' sp hd⟩⟩
end Go.Proofs.Ytipbpppdifplbaa

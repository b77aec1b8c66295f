/- Merged: RcArg. -/
import Derived.Test.YtcllenlpoknakaaDoorMr31
import Derived.Test.YtcllenlpoknakaaDoorMr29
import Derived.Test.YtcllenlpoknakaaDoorRows
import Derived.ChangeSame
import Derived.OpenShut
import Derived.ProofKit
import Derived.ChangeMaps5
import Derived.SizedLaws
import Derived.Lib.SmallJoins
set_option linter.unusedVariables false
namespace Go.Proofs.YtcllenlpoknakaaDoor
open Go Go.RowKit Go.ChangeShapes Go.WideShapes Go.Joins

theorem Tryd.rcellsRec : Tryd.prog.cellsOf 32 = 11 := by kernel_rfl
theorem Tryd.rcellsPol : Tryd.prog.cellsOf 28 = 5 := by kernel_rfl
theorem Tryd.rcellsLev : Tryd.prog.cellsOf 30 = 3 := by kernel_rfl
theorem Tryd.rcellsU64 : Tryd.prog.cellsOf 26 = 1 := by kernel_rfl
theorem Tryd.rcellsInt : Tryd.prog.cellsOf 3 = 1 := by kernel_rfl
theorem Tryd.rcellsStr : Tryd.prog.cellsOf 9 = 1 := by kernel_rfl

def R64 (k : Nat) : Prop := k < 256 ^ 8
theorem R64.of {k : Nat} (h : k < 18446744073709551616) : R64 k := Nat.lt_of_lt_of_le h (by decide)
theorem rlit_u64 {H : Type} {enc : TypeId × Value → H} {W : World} {base : Nat} {spare : Nat → Bool} {held : Bool} {n : Nat} {c : Value} {x : DataW H × List MemPlace}
    (h : DataW.trod enc Tryd.prog W base spare held n 26 [c] = some x) : ∃ k : Nat, c = V k ∧ x = (.lit (.int .u64 (k : Int)), []) ∧ R64 k ∧ ∀ (W' : World) (b' : Nat) (sp : Nat → Bool) (hd : Bool) (m : Nat), DataW.trod enc Tryd.prog W' b' sp hd (m + 1) 26 [V k] = some (.lit (.int .u64 (k : Int)), []) := by
  obtain ⟨k, e, rfl, hw⟩ := DataW.trod_int Tryd.underlying26 h
  simp at e
  subst e
  have hb := bounds_u64 hw
  obtain ⟨j, rfl⟩ := Int.eq_ofNat_of_zero_le hb.1
  exact ⟨j, rfl, rfl, R64.of (by have := hb.2; omega), fun W' b' sp hd m => by simp [DataW.trod, Tryd.underlying26, hw]⟩
theorem rlit_int {H : Type} {enc : TypeId × Value → H} {W : World} {base : Nat} {spare : Nat → Bool} {held : Bool} {n : Nat} {c : Value} {x : DataW H × List MemPlace}
    (h : DataW.trod enc Tryd.prog W base spare held n 3 [c] = some x) : ∃ k : Int, c = .int .i64 k ∧ x = (.lit (.int .i64 k), []) ∧ (-9223372036854775808 ≤ k ∧ k ≤ 9223372036854775807) ∧ ∀ (W' : World) (b' : Nat) (sp : Nat → Bool) (hd : Bool) (m : Nat), DataW.trod enc Tryd.prog W' b' sp hd (m + 1) 3 [.int .i64 k] = some (.lit (.int .i64 k), []) := by
  obtain ⟨k, e, rfl, hw⟩ := DataW.trod_int Tryd.underlying3 h
  simp at e
  subst e
  exact ⟨k, rfl, rfl, bounds_i64 hw, fun W' b' sp hd m => by simp [DataW.trod, Tryd.underlying3, hw]⟩
theorem rlit_str {H : Type} {enc : TypeId × Value → H} {W : World} {base : Nat} {spare : Nat → Bool} {held : Bool} {n : Nat} {c : Value} {x : DataW H × List MemPlace}
    (h : DataW.trod enc Tryd.prog W base spare held n 9 [c] = some x) : ∃ key : List UInt8, c = .string ⟨key.toArray⟩ ∧ x = (.lit (.string key), []) ∧ key.length ≤ maxLen ∧ ∀ (W' : World) (b' : Nat) (sp : Nat → Bool) (hd : Bool) (m : Nat), DataW.trod enc Tryd.prog W' b' sp hd (m + 1) 9 [.string ⟨key.toArray⟩] = some (.lit (.string key), []) := by
  obtain ⟨s, e, rfl, hs⟩ := DataW.trod_string Tryd.underlying9 h
  simp at e
  subst e
  have e2 : (⟨s.data.toList.toArray⟩ : ByteArray) = s := by simp
  have e3 : s.data.toList.length = s.size := by simp
  exact ⟨s.data.toList, by rw [e2], rfl, by rw [e3]; exact hs, fun W' b' sp hd m => by rw [e2]; simp [DataW.trod, Tryd.underlying9, hs]⟩

set_option maxRecDepth 20000 in
theorem ropen_pol {H : Type} {enc : TypeId × Value → H} {W : World} {base : Nat} {spare : Nat → Bool} {held : Bool} {n : Nat} {cs : List Value} {x : DataW H × List MemPlace}
    (h : DataW.trod enc Tryd.prog W base spare held n 28 cs = some x) :
    ∃ (q : Int) (a b c d : Nat), cs = [.int .i64 q, V a, V b, V c, V d] ∧ R64 a ∧ R64 b ∧ R64 c ∧ R64 d ∧ x.2 = [] ∧
      ∀ (W' : World) (b' : Nat) (sp : Nat → Bool) (hd : Bool) (m : Nat), DataW.trod enc Tryd.prog W' b' sp hd (m + 2) 28 cs = some x := by
  obtain ⟨xs, m, _, rfl, hl, hlen, hf⟩ := DataW.trod_struct Tryd.underlying28 h
  rw [Tryd.rcellsPol] at hl
  match cs, hl with
  | [c0, c1, c2, c3, c4], _ =>
    match xs, hlen with
    | [y0, y1, y2, y3, y4], _ =>
      have f0 : DataW.trod enc Tryd.prog W base spare held m 3 (([c0, c1, c2, c3, c4].drop 0).take (Tryd.prog.cellsOf 3)) = some y0 := hf 0 _ rfl
      have f1 : DataW.trod enc Tryd.prog W base spare held m 26 (([c0, c1, c2, c3, c4].drop 1).take (Tryd.prog.cellsOf 26)) = some y1 := hf 1 _ rfl
      have f2 : DataW.trod enc Tryd.prog W base spare held m 26 (([c0, c1, c2, c3, c4].drop 2).take (Tryd.prog.cellsOf 26)) = some y2 := hf 2 _ rfl
      have f3 : DataW.trod enc Tryd.prog W base spare held m 26 (([c0, c1, c2, c3, c4].drop 3).take (Tryd.prog.cellsOf 26)) = some y3 := hf 3 _ rfl
      have f4 : DataW.trod enc Tryd.prog W base spare held m 26 (([c0, c1, c2, c3, c4].drop 4).take (Tryd.prog.cellsOf 26)) = some y4 := hf 4 _ rfl
      rw [Tryd.rcellsU64] at f1 f2 f3 f4
      rw [Tryd.rcellsInt] at f0
      simp at f0 f1 f2 f3 f4
      obtain ⟨k0, rfl, rfl, _, t0⟩ := rlit_int f0
      obtain ⟨k1, rfl, rfl, l1, t1⟩ := rlit_u64 f1
      obtain ⟨k2, rfl, rfl, l2, t2⟩ := rlit_u64 f2
      obtain ⟨k3, rfl, rfl, l3, t3⟩ := rlit_u64 f3
      obtain ⟨k4, rfl, rfl, l4, t4⟩ := rlit_u64 f4
      refine ⟨k0, k1, k2, k3, k4, rfl, l1, l2, l3, l4, rfl, fun W' b' sp hd m => ?_⟩
      refine trod_struct_mk Tryd.underlying28 (by rw [Tryd.rcellsPol]; rfl) ?_
      simp only [List.mapM_cons, List.mapM_nil, Tryd.rcellsU64, Tryd.rcellsInt]
      simp [t0 W' b' sp hd m, t1 W' b' sp hd m, t2 W' b' sp hd m, t3 W' b' sp hd m, t4 W' b' sp hd m]
set_option maxRecDepth 20000 in
theorem ropen_lev {H : Type} {enc : TypeId × Value → H} {W : World} {base : Nat} {spare : Nat → Bool} {held : Bool} {n : Nat} {cs : List Value} {x : DataW H × List MemPlace}
    (h : DataW.trod enc Tryd.prog W base spare held n 30 cs = some x) :
    ∃ (a b c : Nat), cs = [V a, V b, V c] ∧ R64 a ∧ R64 b ∧ R64 c ∧ x.2 = [] ∧
      ∀ (W' : World) (b' : Nat) (sp : Nat → Bool) (hd : Bool) (m : Nat), DataW.trod enc Tryd.prog W' b' sp hd (m + 2) 30 cs = some x := by
  obtain ⟨xs, m, _, rfl, hl, hlen, hf⟩ := DataW.trod_struct Tryd.underlying30 h
  rw [Tryd.rcellsLev] at hl
  match cs, hl with
  | [c0, c1, c2], _ =>
    match xs, hlen with
    | [y0, y1, y2], _ =>
      have f0 : DataW.trod enc Tryd.prog W base spare held m 26 (([c0, c1, c2].drop 0).take (Tryd.prog.cellsOf 26)) = some y0 := hf 0 _ rfl
      have f1 : DataW.trod enc Tryd.prog W base spare held m 26 (([c0, c1, c2].drop 1).take (Tryd.prog.cellsOf 26)) = some y1 := hf 1 _ rfl
      have f2 : DataW.trod enc Tryd.prog W base spare held m 26 (([c0, c1, c2].drop 2).take (Tryd.prog.cellsOf 26)) = some y2 := hf 2 _ rfl
      rw [Tryd.rcellsU64] at f0 f1 f2
      simp at f0 f1 f2
      obtain ⟨k0, rfl, rfl, l0, t0⟩ := rlit_u64 f0
      obtain ⟨k1, rfl, rfl, l1, t1⟩ := rlit_u64 f1
      obtain ⟨k2, rfl, rfl, l2, t2⟩ := rlit_u64 f2
      refine ⟨k0, k1, k2, rfl, l0, l1, l2, rfl, fun W' b' sp hd m => ?_⟩
      refine trod_struct_mk Tryd.underlying30 (by rw [Tryd.rcellsLev]; rfl) ?_
      simp only [List.mapM_cons, List.mapM_nil, Tryd.rcellsU64]
      simp [t0 W' b' sp hd m, t1 W' b' sp hd m, t2 W' b' sp hd m]

set_option maxRecDepth 20000 in
/-- The eleven cells of a record. -/
theorem open_rec_cells {H : Type} {enc : TypeId × Value → H} {W : World} {base : Nat} {spare : Nat → Bool} {held : Bool} {n : Nat} {cs : List Value} {x : DataW H × List MemPlace}
    (h : DataW.trod enc Tryd.prog W base spare held n 32 cs = some x) :
    ∃ r : RecV, cs = [.int .i64 r.kind, V r.floor, .string ⟨r.key.toArray⟩, .int .i64 r.pk, V r.gap, V r.slack, V r.limit, V r.span, V r.tat, V r.idx, V r.cnt] ∧ Fit64 r ∧ (-9223372036854775808 ≤ r.kind ∧ r.kind ≤ 9223372036854775807) ∧ r.key.length ≤ maxLen ∧ x.2 = [] ∧
      (∀ (W' : World) (b' : Nat) (sp : Nat → Bool) (hd : Bool), DataW.trod enc Tryd.prog W' b' sp hd 3 32 cs = some x) ∧
      ((DataW.weights Tryd.prog 32 x.1).all (· ≤ reachBytes) = true → (r.key.length : Int) ≤ 140737488351232) := by
  obtain ⟨xs, m, _, rfl, hl, hlen, hf⟩ := DataW.trod_struct Tryd.underlying32 h
  rw [Tryd.rcellsRec] at hl
  match cs, hl with
  | [c0, c1, c2, c3, c4, c5, c6, c7, c8, c9, c10], _ =>
    match xs, hlen with
    | [y0, y1, y2, y3, y4], _ =>
      have f0 : DataW.trod enc Tryd.prog W base spare held m 3 (([c0, c1, c2, c3, c4, c5, c6, c7, c8, c9, c10].drop 0).take (Tryd.prog.cellsOf 3)) = some y0 := hf 0 _ rfl
      have f1 : DataW.trod enc Tryd.prog W base spare held m 26 (([c0, c1, c2, c3, c4, c5, c6, c7, c8, c9, c10].drop 1).take (Tryd.prog.cellsOf 26)) = some y1 := hf 1 _ rfl
      have f2 : DataW.trod enc Tryd.prog W base spare held m 9 (([c0, c1, c2, c3, c4, c5, c6, c7, c8, c9, c10].drop 2).take (Tryd.prog.cellsOf 9)) = some y2 := hf 2 _ rfl
      have f3 : DataW.trod enc Tryd.prog W base spare held m 28 (([c0, c1, c2, c3, c4, c5, c6, c7, c8, c9, c10].drop 3).take (Tryd.prog.cellsOf 28)) = some y3 := hf 3 _ rfl
      have f4 : DataW.trod enc Tryd.prog W base spare held m 30 (([c0, c1, c2, c3, c4, c5, c6, c7, c8, c9, c10].drop 8).take (Tryd.prog.cellsOf 30)) = some y4 := hf 4 _ rfl
      rw [Tryd.rcellsInt] at f0
      rw [Tryd.rcellsU64] at f1
      rw [Tryd.rcellsStr] at f2
      rw [Tryd.rcellsPol] at f3
      rw [Tryd.rcellsLev] at f4
      simp at f0 f1 f2 f3 f4
      obtain ⟨k0, rfl, rfl, hk, t0⟩ := rlit_int f0
      obtain ⟨k1, rfl, rfl, l1, t1⟩ := rlit_u64 f1
      obtain ⟨key, rfl, rfl, l2, t2⟩ := rlit_str f2
      obtain ⟨p0, p1, p2, p3, p4, e3, m1, m2, m3, m4, r3, t3⟩ := ropen_pol f3
      obtain ⟨q0, q1, q2, e4, n0, n1, n2, r4, t4⟩ := ropen_lev f4
      simp only [List.cons.injEq, and_true] at e3 e4
      obtain ⟨rfl, rfl, rfl, rfl, rfl⟩ := e3
      obtain ⟨rfl, rfl, rfl⟩ := e4
      obtain ⟨z3, w3⟩ := y3
      obtain ⟨z4, w4⟩ := y4
      simp only at r3 r4
      subst r3 r4
      refine ⟨⟨k0, k1, key, p0, p1, p2, p3, p4, q0, q1, q2⟩, rfl, ⟨l1, m1, m2, m3, m4, n0, n1, n2⟩, hk, l2, rfl, fun W' b' sp hd => ?_, fun hw => ?_⟩
      rotate_left
      · have e : DataW.weights Tryd.prog 32 (.agg (([(.lit (.int .i64 k0), []), (.lit (.int .u64 (k1 : Int)), []), (.lit (.string key), []), (z3, []), (z4, [])] : List (DataW H × List MemPlace)).map (·.1))) = DataW.weightsEach Tryd.prog [3, 26, 9, 28, 30] [.lit (.int .i64 k0), .lit (.int .u64 (k1 : Int)), .lit (.string key), z3, z4] := by
          simp only [DataW.weights, Tryd.underlying32]
          rfl
        rw [e] at hw
        have := sized_string hw (j := 2) (t := 9) (bytes := key) rfl rfl
        simp only [reachBytes] at this
        show (key.length : Int) ≤ _
        omega
      refine trod_struct_mk Tryd.underlying32 (by rw [Tryd.rcellsRec]; rfl) ?_
      simp only [List.mapM_cons, List.mapM_nil, Tryd.rcellsU64, Tryd.rcellsInt, Tryd.rcellsStr, Tryd.rcellsLev, Tryd.rcellsPol]
      simp [t0 W' b' sp hd 1, t1 W' b' sp hd 1, t2 W' b' sp hd 1, t3 W' b' sp hd 0, t4 W' b' sp hd 0]
set_option maxRecDepth 20000 in
theorem open_rec {H : Type} {enc : TypeId × Value → H} {W : World} {base : Nat} {spare : Nat → Bool} {held : Bool} {r : Reach} {b0 : Nat} {v : Value} {d : DataW H} {p : List MemPlace}
    (hv : Value.okWide Tryd.prog W r b0 32 v) (h : DataW.Trod enc Tryd.prog W base spare held 32 v d p) :
    ∃ q : RecV, v = RV q ∧ p = [] ∧ Fit64 q ∧ (-9223372036854775808 ≤ q.kind ∧ q.kind ≤ 9223372036854775807) ∧ q.key.length ≤ maxLen ∧
      ∀ (W' : World) (b' : Nat) (sp : Nat → Bool) (hd : Bool), DataW.Trod enc Tryd.prog W' b' sp hd 32 v d p := by
  obtain ⟨cs, rfl, hsz⟩ := okWide_struct Tryd.underlying32 hv
  obtain ⟨fuel, hf⟩ := h
  obtain ⟨q, hcs, hfit, hk, hl, hp, hall, _⟩ := open_rec_cells hf
  simp only [Value.cells] at hcs
  have e : (.agg cs : Value) = RV q := by
    obtain ⟨l⟩ := cs
    simp at hcs
    simp [hcs]
  exact ⟨q, e, hp, hfit, hk, hl, fun W' b' sp hd => ⟨3, hall W' b' sp hd⟩⟩

set_option maxRecDepth 20000 in
/-- The five errors that the rows list. -/
theorem rkn_of {l : List (String × DataW Unit)} {W : World} (h : laidMetH Tryd.prog l W) (hp : (l.all fun x => x.2.handleName?.isNone) = true)
    (hArg : (l.filter fun x => x.1 == "turnstile/api.ErrArg") = [("turnstile/api.ErrArg", .iface "*errors.errorString" (.ptr (.agg [.lit (.string (errTxt 0))])))])
    (hShort : (l.filter fun x => x.1 == "turnstile/api.ErrShort") = [("turnstile/api.ErrShort", .iface "*errors.errorString" (.ptr (.agg [.lit (.string (errTxt 1))])))])
    (hForm : (l.filter fun x => x.1 == "turnstile/api.ErrForm") = [("turnstile/api.ErrForm", .iface "*errors.errorString" (.ptr (.agg [.lit (.string (errTxt 2))])))])
    : ∃ ad, RKn W ad := by
  obtain ⟨aArg, kArg⟩ := gl_of_laid h hArg hp Tryd.gArg Tryd.gtArg
  obtain ⟨aShort, kShort⟩ := gl_of_laid h hShort hp Tryd.gShort Tryd.gtShort
  obtain ⟨aForm, kForm⟩ := gl_of_laid h hForm hp Tryd.gForm Tryd.gtForm
  refine ⟨fun g => if g = 0 then aArg else if g = 1 then aShort else aForm, ⟨fun g hg => ?_⟩⟩
  simp only [recErrs, List.mem_cons, List.not_mem_nil, or_false] at hg
  rcases hg with rfl | rfl | rfl
  · exact kArg
  · exact kShort
  · exact kForm
end Go.Proofs.YtcllenlpoknakaaDoor

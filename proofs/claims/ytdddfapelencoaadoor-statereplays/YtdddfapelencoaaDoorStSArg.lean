/- state: states with the bounds of their keys, and rows of records, among the arguments (StArg with StKArg's states). Own work. -/
import Derived.Test.YtdddfapelencoaaDoorLkM
import Derived.Test.YtdddfapelencoaaDoorRows
import Derived.ChangeSame
import Derived.OpenShut
import Derived.ProofKit
import Derived.ChangeMaps5
import Derived.SizedLaws
import Derived.Lib.SmallJoins
import Derived.Deep.Slices
set_option linter.unusedVariables false
namespace Go.Proofs.YtdddfapelencoaaDoor
open Go Go.RowKit Go.ChangeShapes Go.WideShapes Go.Joins

theorem addr_plain {w : World} {a : Addr} {v : Value} (h : w.cell? a = some v) : a = ⟨a.block, a.off, none⟩ := by
  obtain ⟨b, o, s⟩ := a
  unfold World.cell? at h
  cases s with
  | none => rfl
  | some s =>
    split at h
    · simp at h
    · cases h

theorem Tryd.rcellsRec : Tryd.prog.cellsOf 39 = 11 := by kernel_rfl
theorem Tryd.rcellsPol : Tryd.prog.cellsOf 35 = 5 := by kernel_rfl
theorem Tryd.rcellsLev : Tryd.prog.cellsOf 37 = 3 := by kernel_rfl
theorem Tryd.rcellsU64 : Tryd.prog.cellsOf 24 = 1 := by kernel_rfl
theorem Tryd.rcellsInt : Tryd.prog.cellsOf 3 = 1 := by kernel_rfl
theorem Tryd.rcellsStr : Tryd.prog.cellsOf 9 = 1 := by kernel_rfl

def R64 (k : Nat) : Prop := k < 256 ^ 8
theorem R64.of {k : Nat} (h : k < 18446744073709551616) : R64 k := Nat.lt_of_lt_of_le h (by decide)
theorem rlit_u64 {H : Type} {enc : TypeId × Value → H} {W : World} {base : Nat} {spare : Nat → Bool} {held : Bool} {n : Nat} {c : Value} {x : DataW H × List MemPlace}
    (h : DataW.trod enc Tryd.prog W base spare held n 24 [c] = some x) : ∃ k : Nat, c = V k ∧ x = (.lit (.int .u64 (k : Int)), []) ∧ R64 k ∧ ∀ (W' : World) (b' : Nat) (sp : Nat → Bool) (hd : Bool) (m : Nat), DataW.trod enc Tryd.prog W' b' sp hd (m + 1) 24 [V k] = some (.lit (.int .u64 (k : Int)), []) := by
  obtain ⟨k, e, rfl, hw⟩ := DataW.trod_int Tryd.underlying24 h
  simp at e
  subst e
  have hb := bounds_u64 hw
  obtain ⟨j, rfl⟩ := Int.eq_ofNat_of_zero_le hb.1
  exact ⟨j, rfl, rfl, R64.of (by have := hb.2; omega), fun W' b' sp hd m => by simp [DataW.trod, Tryd.underlying24, hw]⟩
theorem rlit_int {H : Type} {enc : TypeId × Value → H} {W : World} {base : Nat} {spare : Nat → Bool} {held : Bool} {n : Nat} {c : Value} {x : DataW H × List MemPlace}
    (h : DataW.trod enc Tryd.prog W base spare held n 3 [c] = some x) : ∃ k : Int, c = .int .i64 k ∧ x = (.lit (.int .i64 k), []) ∧ (-9223372036854775808 ≤ k ∧ k ≤ 9223372036854775807) ∧ ∀ (W' : World) (b' : Nat) (sp : Nat → Bool) (hd : Bool) (m : Nat), DataW.trod enc Tryd.prog W' b' sp hd (m + 1) 3 [.int .i64 k] = some (.lit (.int .i64 k), []) := by
  obtain ⟨k, e, rfl, hw⟩ := DataW.trod_int Tryd.underlying3 h
  simp at e
  subst e
  exact ⟨k, rfl, rfl, bounds_i64 hw, fun W' b' sp hd m => by simp [DataW.trod, Tryd.underlying3, hw]⟩
theorem rlit_str {H : Type} {enc : TypeId × Value → H} {W : World} {base : Nat} {spare : Nat → Bool} {held : Bool} {n : Nat} {c : Value} {x : DataW H × List MemPlace}
    (h : DataW.trod enc Tryd.prog W base spare held n 9 [c] = some x) : ∃ key : List UInt8, c = .string ⟨key.toArray⟩ ∧ x = (.lit (.string key), []) ∧ key.length ≤ maxLen ∧ ∀ (W' : World) (b' : Nat) (sp : Nat → Bool) (hd : Bool) (m : Nat), DataW.trod enc Tryd.prog W' b' sp hd (m + 1) 9 [.string ⟨key.toArray⟩] = some (.lit (.string key), []) := by
  obtain ⟨s, e, rfl, hs⟩ := DataW.trod_string Tryd.underlying9 h
  simp at e
  subst e
  have e2 : (⟨s.data.toList.toArray⟩ : ByteArray) = s := by simp
  have e3 : s.data.toList.length = s.size := by simp
  exact ⟨s.data.toList, by rw [e2], rfl, by rw [e3]; exact hs, fun W' b' sp hd m => by rw [e2]; simp [DataW.trod, Tryd.underlying9, hs]⟩

set_option maxRecDepth 20000 in
theorem ropen_pol {H : Type} {enc : TypeId × Value → H} {W : World} {base : Nat} {spare : Nat → Bool} {held : Bool} {n : Nat} {cs : List Value} {x : DataW H × List MemPlace}
    (h : DataW.trod enc Tryd.prog W base spare held n 35 cs = some x) :
    ∃ (q : Int) (a b c d : Nat), cs = [.int .i64 q, V a, V b, V c, V d] ∧ R64 a ∧ R64 b ∧ R64 c ∧ R64 d ∧ x.2 = [] ∧
      ∀ (W' : World) (b' : Nat) (sp : Nat → Bool) (hd : Bool) (m : Nat), DataW.trod enc Tryd.prog W' b' sp hd (m + 2) 35 cs = some x := by
  obtain ⟨xs, m, _, rfl, hl, hlen, hf⟩ := DataW.trod_struct Tryd.underlying35 h
  rw [Tryd.rcellsPol] at hl
  match cs, hl with
  | [c0, c1, c2, c3, c4], _ =>
    match xs, hlen with
    | [y0, y1, y2, y3, y4], _ =>
      have f0 : DataW.trod enc Tryd.prog W base spare held m 3 (([c0, c1, c2, c3, c4].drop 0).take (Tryd.prog.cellsOf 3)) = some y0 := hf 0 _ rfl
      have f1 : DataW.trod enc Tryd.prog W base spare held m 24 (([c0, c1, c2, c3, c4].drop 1).take (Tryd.prog.cellsOf 24)) = some y1 := hf 1 _ rfl
      have f2 : DataW.trod enc Tryd.prog W base spare held m 24 (([c0, c1, c2, c3, c4].drop 2).take (Tryd.prog.cellsOf 24)) = some y2 := hf 2 _ rfl
      have f3 : DataW.trod enc Tryd.prog W base spare held m 24 (([c0, c1, c2, c3, c4].drop 3).take (Tryd.prog.cellsOf 24)) = some y3 := hf 3 _ rfl
      have f4 : DataW.trod enc Tryd.prog W base spare held m 24 (([c0, c1, c2, c3, c4].drop 4).take (Tryd.prog.cellsOf 24)) = some y4 := hf 4 _ rfl
      rw [Tryd.rcellsU64] at f1 f2 f3 f4
      rw [Tryd.rcellsInt] at f0
      simp at f0 f1 f2 f3 f4
      obtain ⟨k0, rfl, rfl, _, t0⟩ := rlit_int f0
      obtain ⟨k1, rfl, rfl, l1, t1⟩ := rlit_u64 f1
      obtain ⟨k2, rfl, rfl, l2, t2⟩ := rlit_u64 f2
      obtain ⟨k3, rfl, rfl, l3, t3⟩ := rlit_u64 f3
      obtain ⟨k4, rfl, rfl, l4, t4⟩ := rlit_u64 f4
      refine ⟨k0, k1, k2, k3, k4, rfl, l1, l2, l3, l4, rfl, fun W' b' sp hd m => ?_⟩
      refine trod_struct_mk Tryd.underlying35 (by rw [Tryd.rcellsPol]; rfl) ?_
      simp only [List.mapM_cons, List.mapM_nil, Tryd.rcellsU64, Tryd.rcellsInt]
      simp [t0 W' b' sp hd m, t1 W' b' sp hd m, t2 W' b' sp hd m, t3 W' b' sp hd m, t4 W' b' sp hd m]
set_option maxRecDepth 20000 in
theorem ropen_lev {H : Type} {enc : TypeId × Value → H} {W : World} {base : Nat} {spare : Nat → Bool} {held : Bool} {n : Nat} {cs : List Value} {x : DataW H × List MemPlace}
    (h : DataW.trod enc Tryd.prog W base spare held n 37 cs = some x) :
    ∃ (a b c : Nat), cs = [V a, V b, V c] ∧ R64 a ∧ R64 b ∧ R64 c ∧ x.2 = [] ∧
      ∀ (W' : World) (b' : Nat) (sp : Nat → Bool) (hd : Bool) (m : Nat), DataW.trod enc Tryd.prog W' b' sp hd (m + 2) 37 cs = some x := by
  obtain ⟨xs, m, _, rfl, hl, hlen, hf⟩ := DataW.trod_struct Tryd.underlying37 h
  rw [Tryd.rcellsLev] at hl
  match cs, hl with
  | [c0, c1, c2], _ =>
    match xs, hlen with
    | [y0, y1, y2], _ =>
      have f0 : DataW.trod enc Tryd.prog W base spare held m 24 (([c0, c1, c2].drop 0).take (Tryd.prog.cellsOf 24)) = some y0 := hf 0 _ rfl
      have f1 : DataW.trod enc Tryd.prog W base spare held m 24 (([c0, c1, c2].drop 1).take (Tryd.prog.cellsOf 24)) = some y1 := hf 1 _ rfl
      have f2 : DataW.trod enc Tryd.prog W base spare held m 24 (([c0, c1, c2].drop 2).take (Tryd.prog.cellsOf 24)) = some y2 := hf 2 _ rfl
      rw [Tryd.rcellsU64] at f0 f1 f2
      simp at f0 f1 f2
      obtain ⟨k0, rfl, rfl, l0, t0⟩ := rlit_u64 f0
      obtain ⟨k1, rfl, rfl, l1, t1⟩ := rlit_u64 f1
      obtain ⟨k2, rfl, rfl, l2, t2⟩ := rlit_u64 f2
      refine ⟨k0, k1, k2, rfl, l0, l1, l2, rfl, fun W' b' sp hd m => ?_⟩
      refine trod_struct_mk Tryd.underlying37 (by rw [Tryd.rcellsLev]; rfl) ?_
      simp only [List.mapM_cons, List.mapM_nil, Tryd.rcellsU64]
      simp [t0 W' b' sp hd m, t1 W' b' sp hd m, t2 W' b' sp hd m]

set_option maxRecDepth 20000 in
/-- The eleven cells of a record. -/
theorem open_rec_cells {H : Type} {enc : TypeId × Value → H} {W : World} {base : Nat} {spare : Nat → Bool} {held : Bool} {n : Nat} {cs : List Value} {x : DataW H × List MemPlace}
    (h : DataW.trod enc Tryd.prog W base spare held n 39 cs = some x) :
    ∃ r : RecV, cs = [.int .i64 r.kind, V r.floor, .string ⟨r.key.toArray⟩, .int .i64 r.pk, V r.gap, V r.slack, V r.limit, V r.span, V r.tat, V r.idx, V r.cnt] ∧ Fit64 r ∧ (-9223372036854775808 ≤ r.kind ∧ r.kind ≤ 9223372036854775807) ∧ r.key.length ≤ maxLen ∧ x.2 = [] ∧
      (∀ (W' : World) (b' : Nat) (sp : Nat → Bool) (hd : Bool), DataW.trod enc Tryd.prog W' b' sp hd 3 39 cs = some x) ∧
      ((DataW.weights Tryd.prog 39 x.1).all (· ≤ reachBytes) = true → (r.key.length : Int) ≤ 140737488351232) := by
  obtain ⟨xs, m, _, rfl, hl, hlen, hf⟩ := DataW.trod_struct Tryd.underlying39 h
  rw [Tryd.rcellsRec] at hl
  match cs, hl with
  | [c0, c1, c2, c3, c4, c5, c6, c7, c8, c9, c10], _ =>
    match xs, hlen with
    | [y0, y1, y2, y3, y4], _ =>
      have f0 : DataW.trod enc Tryd.prog W base spare held m 3 (([c0, c1, c2, c3, c4, c5, c6, c7, c8, c9, c10].drop 0).take (Tryd.prog.cellsOf 3)) = some y0 := hf 0 _ rfl
      have f1 : DataW.trod enc Tryd.prog W base spare held m 24 (([c0, c1, c2, c3, c4, c5, c6, c7, c8, c9, c10].drop 1).take (Tryd.prog.cellsOf 24)) = some y1 := hf 1 _ rfl
      have f2 : DataW.trod enc Tryd.prog W base spare held m 9 (([c0, c1, c2, c3, c4, c5, c6, c7, c8, c9, c10].drop 2).take (Tryd.prog.cellsOf 9)) = some y2 := hf 2 _ rfl
      have f3 : DataW.trod enc Tryd.prog W base spare held m 35 (([c0, c1, c2, c3, c4, c5, c6, c7, c8, c9, c10].drop 3).take (Tryd.prog.cellsOf 35)) = some y3 := hf 3 _ rfl
      have f4 : DataW.trod enc Tryd.prog W base spare held m 37 (([c0, c1, c2, c3, c4, c5, c6, c7, c8, c9, c10].drop 8).take (Tryd.prog.cellsOf 37)) = some y4 := hf 4 _ rfl
      rw [Tryd.rcellsInt] at f0
      rw [Tryd.rcellsU64] at f1
      rw [Tryd.rcellsStr] at f2
      rw [Tryd.rcellsPol] at f3
      rw [Tryd.rcellsLev] at f4
      simp at f0 f1 f2 f3 f4
      obtain ⟨k0, rfl, rfl, hk, t0⟩ := rlit_int f0
      obtain ⟨k1, rfl, rfl, l1, t1⟩ := rlit_u64 f1
      obtain ⟨key, rfl, rfl, l2, t2⟩ := rlit_str f2
      obtain ⟨p0, p1, p2, p3, p4, e3, m1, m2, m3, m4, r3, t3⟩ := ropen_pol f3
      obtain ⟨q0, q1, q2, e4, n0, n1, n2, r4, t4⟩ := ropen_lev f4
      simp only [List.cons.injEq, and_true] at e3 e4
      obtain ⟨rfl, rfl, rfl, rfl, rfl⟩ := e3
      obtain ⟨rfl, rfl, rfl⟩ := e4
      obtain ⟨z3, w3⟩ := y3
      obtain ⟨z4, w4⟩ := y4
      simp only at r3 r4
      subst r3 r4
      refine ⟨⟨k0, k1, key, p0, p1, p2, p3, p4, q0, q1, q2⟩, rfl, ⟨l1, m1, m2, m3, m4, n0, n1, n2⟩, hk, l2, rfl, fun W' b' sp hd => ?_, fun hw => ?_⟩
      rotate_left
      · have e : DataW.weights Tryd.prog 39 (.agg (([(.lit (.int .i64 k0), []), (.lit (.int .u64 (k1 : Int)), []), (.lit (.string key), []), (z3, []), (z4, [])] : List (DataW H × List MemPlace)).map (·.1))) = DataW.weightsEach Tryd.prog [3, 24, 9, 35, 37] [.lit (.int .i64 k0), .lit (.int .u64 (k1 : Int)), .lit (.string key), z3, z4] := by
          simp only [DataW.weights, Tryd.underlying39]
          rfl
        rw [e] at hw
        have := sized_string hw (j := 2) (t := 9) (bytes := key) rfl rfl
        simp only [reachBytes] at this
        show (key.length : Int) ≤ _
        omega
      refine trod_struct_mk Tryd.underlying39 (by rw [Tryd.rcellsRec]; rfl) ?_
      simp only [List.mapM_cons, List.mapM_nil, Tryd.rcellsU64, Tryd.rcellsInt, Tryd.rcellsStr, Tryd.rcellsLev, Tryd.rcellsPol]
      simp [t0 W' b' sp hd 1, t1 W' b' sp hd 1, t2 W' b' sp hd 1, t3 W' b' sp hd 0, t4 W' b' sp hd 0]
set_option maxRecDepth 20000 in
theorem open_rec {H : Type} {enc : TypeId × Value → H} {W : World} {base : Nat} {spare : Nat → Bool} {held : Bool} {r : Reach} {b0 : Nat} {v : Value} {d : DataW H} {p : List MemPlace}
    (hv : Value.okWide Tryd.prog W r b0 39 v) (h : DataW.Trod enc Tryd.prog W base spare held 39 v d p) :
    ∃ q : RecV, v = RV q ∧ p = [] ∧ Fit64 q ∧ (-9223372036854775808 ≤ q.kind ∧ q.kind ≤ 9223372036854775807) ∧ q.key.length ≤ maxLen ∧
      ∀ (W' : World) (b' : Nat) (sp : Nat → Bool) (hd : Bool), DataW.Trod enc Tryd.prog W' b' sp hd 39 v d p := by
  obtain ⟨cs, rfl, hsz⟩ := okWide_struct Tryd.underlying39 hv
  obtain ⟨fuel, hf⟩ := h
  obtain ⟨q, hcs, hfit, hk, hl, hp, hall, _⟩ := open_rec_cells hf
  simp only [Value.cells] at hcs
  have e : (.agg cs : Value) = RV q := by
    obtain ⟨l⟩ := cs
    simp at hcs
    simp [hcs]
  exact ⟨q, e, hp, hfit, hk, hl, fun W' b' sp hd => ⟨3, hall W' b' sp hd⟩⟩

theorem rall_part {H : Type} {P : Program} {e : TypeId} {d : DataW H} : ∀ {l : List (DataW H)}, (DataW.weightsAll P e l).all (· ≤ reachBytes) = true → d ∈ l → (DataW.weights P e d).all (· ≤ reachBytes) = true
  | [], _, h => by cases h
  | x :: r, hw, h => by
    simp only [DataW.weightsAll, List.all_append, Bool.and_eq_true] at hw
    rcases List.mem_cons.1 h with e | e
    · subst e; exact hw.1
    · exact rall_part hw.2 e


theorem Tryd.scellsEnt : Tryd.prog.cellsOf 58 = 9 := by kernel_rfl
theorem Tryd.sbytesEnt : Tryd.prog.bytesOf 58 = 80 := by kernel_rfl
theorem Tryd.scellsSt : Tryd.prog.cellsOf 27 = 3 := by kernel_rfl
theorem Tryd.scellsEnts : Tryd.prog.cellsOf 25 = 1 := by kernel_rfl
theorem Tryd.sbytesRec : Tryd.prog.bytesOf 39 = 96 := by kernel_rfl
theorem Tryd.readableSt : Tryd.prog.readableRec 27 = true := by kernel_rfl
theorem Tryd.readableRecs : Tryd.prog.readableRec 51 = true := by kernel_rfl
theorem Tryd.laidOutS : laidOutB Tryd.prog = true := by kernel_rfl

set_option maxRecDepth 20000 in
/-- One entry, read out of its nine cells. -/
theorem open_ent {H : Type} {enc : TypeId × Value → H} {W : World} {b o n : Nat} {cs : List Value} {x : DataW H × List MemPlace} (hc : W.cells? 0 ⟨b, o, none⟩ 9 = some cs)
    (h : DataW.trod enc Tryd.prog W 0 (fun _ => true) true n 58 cs = some x) : ∃ e : Ent, EntAt W b o e ∧ e.1.size ≤ maxLen := by
  obtain ⟨xs, m, _, rfl, hl, hlen, hf⟩ := DataW.trod_struct Tryd.underlying58 h
  rw [Tryd.scellsEnt] at hl
  match cs, hl with
  | [c0, c1, c2, c3, c4, c5, c6, c7, c8], _ =>
    match xs, hlen with
    | [y0, y1, y2], _ =>
      have f0 : DataW.trod enc Tryd.prog W 0 (fun _ => true) true m 9 (([c0, c1, c2, c3, c4, c5, c6, c7, c8].drop 0).take (Tryd.prog.cellsOf 9)) = some y0 := hf 0 _ rfl
      have f1 : DataW.trod enc Tryd.prog W 0 (fun _ => true) true m 35 (([c0, c1, c2, c3, c4, c5, c6, c7, c8].drop 1).take (Tryd.prog.cellsOf 35)) = some y1 := hf 1 _ rfl
      have f2 : DataW.trod enc Tryd.prog W 0 (fun _ => true) true m 37 (([c0, c1, c2, c3, c4, c5, c6, c7, c8].drop 6).take (Tryd.prog.cellsOf 37)) = some y2 := hf 2 _ rfl
      rw [Tryd.rcellsStr] at f0
      rw [Tryd.rcellsPol] at f1
      rw [Tryd.rcellsLev] at f2
      simp at f0 f1 f2
      obtain ⟨key, rfl, rfl, hkl, _⟩ := rlit_str f0
      obtain ⟨p0, p1, p2, p3, p4, e3, n1, n2, n3, n4, _⟩ := ropen_pol f1
      obtain ⟨q0, q1, q2, e4, n5, n6, n7, _⟩ := ropen_lev f2
      simp only [List.cons.injEq, and_true] at e3 e4
      obtain ⟨rfl, rfl, rfl, rfl, rfl⟩ := e3
      obtain ⟨rfl, rfl, rfl⟩ := e4
      refine ⟨(⟨key.toArray⟩, ⟨p0, p1, p2, p3, p4⟩, ⟨q0, q1, q2⟩), ?_⟩
      have hcells : EntAt W b o (⟨key.toArray⟩, ⟨p0, p1, p2, p3, p4⟩, ⟨q0, q1, q2⟩) := by
        unfold World.cells? at hc
        rw [if_pos (Nat.zero_le _)] at hc
        have hr : List.range 9 = [0, 1, 2, 3, 4, 5, 6, 7, 8] := by decide
        rw [hr] at hc
        simp only [List.mapM_cons, List.mapM_nil, Addr.add_lit, Nat.add_zero] at hc
        simp only [Option.bind_eq_bind, Option.bind_eq_some_iff, Option.pure_def, Option.some.injEq] at hc
        obtain ⟨a0, h0, r0, ⟨a1, h1, r1, ⟨a2, h2, r2, ⟨a3, h3, r3, ⟨a4, h4, r4, ⟨a5, h5, r5, ⟨a6, h6, r6, ⟨a7, h7, r7, ⟨a8, h8, r8, g1, g2⟩, g3⟩, g4⟩, g5⟩, g6⟩, g7⟩, g8⟩, g9⟩, g10⟩ := hc
        subst g1 g2 g3 g4 g5 g6 g7 g8 g9
        simp at g10
        obtain ⟨rfl, rfl, rfl, rfl, rfl, rfl, rfl, rfl, rfl⟩ := g10
        exact ⟨h0, h1, h2, h3, h4, h5, h6, h7, h8⟩
      exact ⟨hcells, hkl⟩

set_option maxRecDepth 20000 in
/-- A slice of entries. -/
theorem open_ents {H : Type} {enc : TypeId × Value → H} {W : World} {n : Nat} {c : Value} {x : DataW H × List MemPlace}
    (h : DataW.trod enc Tryd.prog W 0 (fun _ => true) true n 25 [c] = some x) : ∃ xs : List Ent, SlE W c xs ∧ (∀ e ∈ xs, e.1.size ≤ maxLen) ∧ ((DataW.weights Tryd.prog 25 x.1).all (· ≤ reachBytes) = true → (xs.length : Int) ≤ 1759218604390) := by
  rcases Go.Deep.open_slice Tryd.underlying25 h with ⟨hcs, hx⟩ | ⟨a, len, cap, m, n', D, Pl, hcs, _, hl, hm, hm2, hx, hel⟩
  · simp at hcs
    subst hcs
    exact ⟨[], SlE.nil W, (by intro e he; cases he), fun _ => by simp⟩
  · simp at hcs
    subst hcs
    simp only [if_true] at hm2
    subst hm2
    have hx1 := congrArg Prod.fst hx
    simp only at hx1
    rw [Tryd.scellsEnt] at hel
    by_cases hn : len = 0
    · subst hn
      exact ⟨[], ⟨some a, m, rfl, Nat.zero_le _, (by intro e; cases e), fun h => absurd rfl h⟩, (by intro e he; cases he), fun _ => by simp⟩
    · have hplain : a = ⟨a.block, a.off, none⟩ := by
        obtain ⟨cs', h1, _⟩ := hel 0 (by omega)
        unfold World.cells? at h1
        rw [if_pos (Nat.zero_le _)] at h1
        have hr : List.range 9 = [0, 1, 2, 3, 4, 5, 6, 7, 8] := by decide
        rw [hr] at h1
        simp only [List.mapM_cons, Option.bind_eq_bind, Option.bind_eq_some_iff] at h1
        obtain ⟨x, h2, _⟩ := h1
        have e : (a.add (0 * 9)).add 0 = a := by simp [Addr.add]
        rw [e] at h2
        exact addr_plain h2
      have each : ∀ i, i < len → ∃ p : Ent, EntAt W a.block (a.off + i * 9) p ∧ p.1.size ≤ maxLen := by
        intro i hi
        obtain ⟨cs', h1, h2⟩ := hel i (by omega)
        rw [hplain, Addr.add_lit] at h1
        exact open_ent h1 h2
      have hch : ∃ f : Nat → Ent, ∀ i, i < len → EntAt W a.block (a.off + i * 9) (f i) ∧ (f i).1.size ≤ maxLen := by
        refine ⟨fun i => if h : i < len then Classical.choose (each i h) else (⟨#[]⟩, ⟨0, 0, 0, 0, 0⟩, ⟨0, 0, 0⟩), fun i hi => ?_⟩
        simp only [dif_pos hi]
        exact Classical.choose_spec (each i hi)
      obtain ⟨f, hf⟩ := hch
      have hlen : ((List.range len).map f).length = len := by simp
      refine ⟨(List.range len).map f, ⟨some a, m, by rw [hlen], by rw [hlen]; exact hl, (by intro e; cases e), fun _ => ⟨a.block, a.off, congrArg some hplain, EntsAt.of fun i hi => ?_⟩⟩, fun e he => ?_, fun hw => ?_⟩
      · rw [hlen] at hi
        simpa using (hf i hi).1
      · obtain ⟨i, hi, rfl⟩ := List.mem_map.1 he
        exact (hf i (List.mem_range.1 hi)).2
      · rw [hx1] at hw
        simp only [DataW.weights, Tryd.underlying25, List.all_cons, List.all_append, Bool.and_eq_true] at hw
        have hw1' := of_decide_eq_true hw.1
        rw [Tryd.sbytesEnt, List.length_map, List.length_range] at hw1'
        rw [hlen]
        simp only [reachBytes] at hw1'
        omega

set_option maxRecDepth 20000 in
/-- A state by value. -/
theorem open_state {H : Type} {enc : TypeId × Value → H} {W : World} {r : Reach} {b0 : Nat} {v : Value} {d : DataW H} {p : List MemPlace}
    (hv : Value.okWide Tryd.prog W r b0 27 v) (h : DataW.Trod enc Tryd.prog W 0 (fun _ => true) true 27 v d p) :
    ∃ (l f : Nat) (vk : Value) (xs : List Ent), v = .agg #[V l, V f, vk] ∧ l < 18446744073709551616 ∧ f < 18446744073709551616 ∧ SlE W vk xs ∧ (∀ e ∈ xs, e.1.size ≤ maxLen) ∧ ((DataW.weights Tryd.prog 27 d).all (· ≤ reachBytes) = true → (xs.length : Int) ≤ 1759218604390) := by
  obtain ⟨cs, rfl, hsz⟩ := okWide_struct Tryd.underlying27 hv
  obtain ⟨fuel, hf0⟩ := h
  obtain ⟨xs, m, _, hxp, hl, hlen, hf⟩ := DataW.trod_struct Tryd.underlying27 hf0
  rw [Tryd.scellsSt] at hl
  simp only [Value.cells] at hl hf
  obtain ⟨L⟩ := cs
  simp only at hl hf
  match L, hl with
  | [c0, c1, c2], _ =>
    match xs, hlen with
    | [y0, y1, y2], _ =>
      have f0 : DataW.trod enc Tryd.prog W 0 (fun _ => true) true m 24 (([c0, c1, c2].drop 0).take (Tryd.prog.cellsOf 24)) = some y0 := hf 0 _ rfl
      have f1 : DataW.trod enc Tryd.prog W 0 (fun _ => true) true m 24 (([c0, c1, c2].drop 1).take (Tryd.prog.cellsOf 24)) = some y1 := hf 1 _ rfl
      have f2 : DataW.trod enc Tryd.prog W 0 (fun _ => true) true m 25 (([c0, c1, c2].drop 2).take (Tryd.prog.cellsOf 25)) = some y2 := hf 2 _ rfl
      rw [Tryd.rcellsU64] at f0 f1
      rw [Tryd.scellsEnts] at f2
      simp at f0 f1 f2
      obtain ⟨k0, rfl, rfl, l0, _⟩ := rlit_u64 f0
      obtain ⟨k1, rfl, rfl, l1, _⟩ := rlit_u64 f1
      obtain ⟨es, hs, hee, hb⟩ := open_ents f2
      refine ⟨k0, k1, c2, es, rfl, by unfold R64 at l0; omega, by unfold R64 at l1; omega, hs, hee, fun hw => ?_⟩
      have hd1 := congrArg Prod.fst hxp
      simp only at hd1
      rw [hd1] at hw
      have e : DataW.weights Tryd.prog 27 (.agg (([(.lit (.int .u64 (k0 : Int)), []), (.lit (.int .u64 (k1 : Int)), []), y2] : List (DataW H × List MemPlace)).map (·.1))) = DataW.weightsEach Tryd.prog [24, 24, 25] [.lit (.int .u64 (k0 : Int)), .lit (.int .u64 (k1 : Int)), y2.1] := by
        simp only [DataW.weights, Tryd.underlying27]
        rfl
      rw [e] at hw
      exact hb (List.all_eq_true.2 fun n hn => List.all_eq_true.1 hw n (DataW.weights_mem_each (j := 2) rfl rfl n hn))

set_option maxRecDepth 20000 in
theorem open_rec_at {H : Type} {enc : TypeId × Value → H} {W : World} {b o n : Nat} {cs : List Value} {x : DataW H × List MemPlace} (hc : W.cells? 0 ⟨b, o, none⟩ 11 = some cs)
    (h : DataW.trod enc Tryd.prog W 0 (fun _ => true) true n 39 cs = some x) : ∃ r : RecV, RecAt W b o r ∧ Fit64 r := by
  obtain ⟨r, hcs, hfit, _⟩ := open_rec_cells h
  subst hcs
  refine ⟨r, ?_, hfit⟩
  have hcells : RecAt W b o r := by
        unfold World.cells? at hc
        rw [if_pos (Nat.zero_le _)] at hc
        have hr : List.range 11 = [0, 1, 2, 3, 4, 5, 6, 7, 8, 9, 10] := by decide
        rw [hr] at hc
        simp only [List.mapM_cons, List.mapM_nil, Addr.add_lit, Nat.add_zero] at hc
        simp only [Option.bind_eq_bind, Option.bind_eq_some_iff, Option.pure_def, Option.some.injEq] at hc
        obtain ⟨a0, h0, r0, ⟨a1, h1, r1, ⟨a2, h2, r2, ⟨a3, h3, r3, ⟨a4, h4, r4, ⟨a5, h5, r5, ⟨a6, h6, r6, ⟨a7, h7, r7, ⟨a8, h8, r8, ⟨a9, h9, r9, ⟨a10, h10, r10, g1, g2⟩, g3⟩, g4⟩, g5⟩, g6⟩, g7⟩, g8⟩, g9⟩, g10⟩, g11⟩, g12⟩ := hc
        subst g1 g2 g3 g4 g5 g6 g7 g8 g9 g10 g11
        simp at g12
        obtain ⟨rfl, rfl, rfl, rfl, rfl, rfl, rfl, rfl, rfl, rfl, rfl⟩ := g12
        exact ⟨h0, h1, h2, h3, h4, h5, h6, h7, h8, h9, h10⟩
  exact hcells

set_option maxRecDepth 20000 in
/-- A slice of records among the arguments. -/
theorem open_recs {H : Type} {enc : TypeId × Value → H} {W : World} {v : Value} {d : DataW H} {p : List MemPlace} (hv : ∃ a n c, v = .slice a n c)
    (h : DataW.Trod enc Tryd.prog W 0 (fun _ => true) true 51 v d p) :
    ∃ rs : List RecV, SlR W v rs ∧ (∀ a m c, v = .slice a m c → c ≤ maxLen) ∧ (∀ r ∈ rs, Fit64 r) ∧ ((DataW.weights Tryd.prog 51 d).all (· ≤ reachBytes) = true → (rs.length : Int) ≤ 1466015503658) := by
  obtain ⟨a0, n0, c0, rfl⟩ := hv
  obtain ⟨fuel, hf⟩ := h
  rcases Go.Deep.open_slice Tryd.underlying51 hf with ⟨hcs, hx⟩ | ⟨a, len, cap, m, n, D, Pl, hcs, _, hl, hm, hm2, hx, hel⟩
  · simp [Value.cells] at hcs
    obtain ⟨rfl, rfl, rfl⟩ := hcs
    exact ⟨[], ⟨none, 0, rfl, Nat.le_refl _, fun _ => rfl, fun h => absurd rfl h⟩, fun a m c e => by simp only [Value.slice.injEq] at e; unfold maxLen; omega, (by intro r hr; cases hr), fun _ => by simp⟩
  · simp [Value.cells] at hcs
    obtain ⟨rfl, rfl, rfl⟩ := hcs
    simp only [if_true] at hm2
    subst hm2
    simp only [Prod.mk.injEq] at hx
    obtain ⟨rfl, _⟩ := hx
    rw [Tryd.rcellsRec] at hel
    have hcap : ∀ a' m' c', Value.slice (some a) n0 m = .slice a' m' c' → c' ≤ maxLen := fun a' m' c' e => by simp only [Value.slice.injEq] at e; omega
    by_cases hn : n0 = 0
    · subst hn
      exact ⟨[], ⟨some a, m, rfl, Nat.zero_le _, (by intro e; cases e), fun h => absurd rfl h⟩, hcap, (by intro r hr; cases hr), fun _ => by simp⟩
    · have hplain : a = ⟨a.block, a.off, none⟩ := by
        obtain ⟨cs', h1, _⟩ := hel 0 (by omega)
        unfold World.cells? at h1
        rw [if_pos (Nat.zero_le _)] at h1
        have hr : List.range 11 = [0, 1, 2, 3, 4, 5, 6, 7, 8, 9, 10] := by decide
        rw [hr] at h1
        simp only [List.mapM_cons, Option.bind_eq_bind, Option.bind_eq_some_iff] at h1
        obtain ⟨x, h2, _⟩ := h1
        have e : (a.add (0 * 11)).add 0 = a := by simp [Addr.add]
        rw [e] at h2
        exact addr_plain h2
      have each : ∀ i, i < n0 → ∃ p : RecV, RecAt W a.block (a.off + i * 11) p ∧ Fit64 p := by
        intro i hi
        obtain ⟨cs', h1, h2⟩ := hel i (by omega)
        rw [hplain, Addr.add_lit] at h1
        exact open_rec_at h1 h2
      have hch : ∃ f : Nat → RecV, ∀ i, i < n0 → RecAt W a.block (a.off + i * 11) (f i) ∧ Fit64 (f i) := by
        refine ⟨fun i => if h : i < n0 then Classical.choose (each i h) else recGone, fun i hi => ?_⟩
        simp only [dif_pos hi]
        exact Classical.choose_spec (each i hi)
      obtain ⟨f, hf⟩ := hch
      have hlen : ((List.range n0).map f).length = n0 := by simp
      refine ⟨(List.range n0).map f, ⟨some a, m, by rw [hlen], by rw [hlen]; exact hl, (by intro e; cases e), fun _ => ⟨a.block, a.off, congrArg some hplain, fun i hi => ?_⟩⟩, hcap, fun r hr => ?_, fun hw => ?_⟩
      · rw [hlen] at hi
        simpa using (hf i hi).1
      · obtain ⟨i, hi, rfl⟩ := List.mem_map.1 hr
        exact (hf i (List.mem_range.1 hi)).2
      · simp only [DataW.weights, Tryd.underlying51, List.all_cons, List.all_append, Bool.and_eq_true] at hw
        have hw1' := of_decide_eq_true hw.1
        rw [Tryd.sbytesRec, List.length_map, List.length_range] at hw1'
        rw [hlen]
        simp only [reachBytes] at hw1'
        omega

/-- The three errors that the laws know. -/
theorem st_of {l : List (String × DataW Unit)} {W : World} (h : laidMetH Tryd.prog l W) (hp : (l.all fun x => x.2.handleName?.isNone) = true)
    (hArg : (l.filter fun x => x.1 == "turnstile/api.ErrArg") = [("turnstile/api.ErrArg", .iface "*errors.errorString" (.ptr (.agg [.lit (.string (errTxt 1))])))])
    (hGap : (l.filter fun x => x.1 == "turnstile/api.ErrGap") = [("turnstile/api.ErrGap", .iface "*errors.errorString" (.ptr (.agg [.lit (.string (errTxt 3))])))])
    (hLog : (l.filter fun x => x.1 == "turnstile/api.ErrLog") = [("turnstile/api.ErrLog", .iface "*errors.errorString" (.ptr (.agg [.lit (.string (errTxt 0))])))])
    : ∃ ad, ErrSet stErrs errTxt W ad := by
  obtain ⟨aArg, kArg⟩ := gl_of_laid h hArg hp Tryd.gArg Tryd.gtArg
  obtain ⟨aGap, kGap⟩ := gl_of_laid h hGap hp Tryd.gGap Tryd.gtGap
  obtain ⟨aLog, kLog⟩ := gl_of_laid h hLog hp Tryd.gLog Tryd.gtLog
  refine ⟨fun g => if g = 1 then aArg else if g = 3 then aGap else aLog, fun g hg => ?_⟩
  simp only [stErrs, List.mem_cons, List.not_mem_nil, or_false] at hg
  rcases hg with rfl | rfl | rfl
  · exact kArg
  · exact kGap
  · exact kLog
end Go.Proofs.YtdddfapelencoaaDoor

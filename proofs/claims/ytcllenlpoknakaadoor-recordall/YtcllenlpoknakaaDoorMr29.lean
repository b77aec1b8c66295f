/- Merged: Same, Args. -/
import Derived.Test.YtcllenlpoknakaaDoorMr27
import Derived.Test.YtcllenlpoknakaaDoorMr28
import Derived.Test.YtcllenlpoknakaaDoorMr26
import Derived.OpenShut
import Derived.SizedLaws
set_option linter.unusedVariables false
namespace Go.Proofs.YtcllenlpoknakaaDoor
open Go Go.RowKit

/-- All errors of the package api, by their variables. -/
def allErrs : List Nat := [
  0,
  1,
  2,
  3,
  5,
  6,
  7,
  8,
  9,
  10,
  11,
  12,
  13,
  14,
  4]
/-- Their texts are unlike. -/
def Unlike (txt : Nat → List UInt8) : Prop := ∀ g, g ∈ allErrs → ∀ k, k ∈ allErrs → g ≠ k → txt g ≠ txt k

theorem ErrSet.other {txt : Nat → List UInt8} {w : World} {ad : Nat → Addr} (h : ErrSet allErrs txt w ad) (hu : Unlike txt) (g k : Nat) (hg : g ∈ allErrs) (hk : k ∈ allErrs) (hne : g ≠ k) :
    (binOp .eql 37 (E (ad g)) (E (ad k))).run Tryd.prog w = .ok (.bool false) w := eq_other (h g hg).2 (h k hk).2 (hu g hg k hk hne)

theorem Of_none (w : World) : Calls Tryd.prog 40 #[.nilIface] w fun e w' => e = .returned (.int .i64 0) ∧ w' = w := by
  go_enter Tryd.func40, Tryd.ntmps40
  go_wp2
  go_ret
  exact ⟨rfl, rfl⟩

set_option maxHeartbeats 800000 in
theorem Of_Short (txt : Nat → List UInt8) (w : World) (ad : Nat → Addr) (h : ErrSet allErrs txt w ad) (hu : Unlike txt) :
    Calls Tryd.prog 40 #[E (ad 1)] w fun e w' => e = .returned (.int .i64 2) ∧ w' = w := by
  have cArg := (h 0 (by decide)).1.cell
  have cShort := (h 1 (by decide)).1.cell
  have nArg := h.other hu 1 0 (by decide) (by decide) (by decide)
  have sShort := eq_same (ad 1)
  clear h hu
  generalize ad 0 = aArg at *
  generalize ad 1 = aShort at *
  go_enter Tryd.func40, Tryd.ntmps40
  go_wp2
  go_ret
  exact ⟨rfl, rfl⟩

set_option maxHeartbeats 800000 in
theorem Of_Form (txt : Nat → List UInt8) (w : World) (ad : Nat → Addr) (h : ErrSet allErrs txt w ad) (hu : Unlike txt) :
    Calls Tryd.prog 40 #[E (ad 2)] w fun e w' => e = .returned (.int .i64 3) ∧ w' = w := by
  have cArg := (h 0 (by decide)).1.cell
  have cShort := (h 1 (by decide)).1.cell
  have cForm := (h 2 (by decide)).1.cell
  have nArg := h.other hu 2 0 (by decide) (by decide) (by decide)
  have nShort := h.other hu 2 1 (by decide) (by decide) (by decide)
  have sForm := eq_same (ad 2)
  clear h hu
  generalize ad 0 = aArg at *
  generalize ad 1 = aShort at *
  generalize ad 2 = aForm at *
  go_enter Tryd.func40, Tryd.ntmps40
  go_wp2
  go_ret
  exact ⟨rfl, rfl⟩

set_option maxHeartbeats 800000 in
theorem Of_Long (txt : Nat → List UInt8) (w : World) (ad : Nat → Addr) (h : ErrSet allErrs txt w ad) (hu : Unlike txt) :
    Calls Tryd.prog 40 #[E (ad 3)] w fun e w' => e = .returned (.int .i64 4) ∧ w' = w := by
  have cArg := (h 0 (by decide)).1.cell
  have cShort := (h 1 (by decide)).1.cell
  have cForm := (h 2 (by decide)).1.cell
  have cLong := (h 3 (by decide)).1.cell
  have nArg := h.other hu 3 0 (by decide) (by decide) (by decide)
  have nShort := h.other hu 3 1 (by decide) (by decide) (by decide)
  have nForm := h.other hu 3 2 (by decide) (by decide) (by decide)
  have sLong := eq_same (ad 3)
  clear h hu
  generalize ad 0 = aArg at *
  generalize ad 1 = aShort at *
  generalize ad 2 = aForm at *
  generalize ad 3 = aLong at *
  go_enter Tryd.func40, Tryd.ntmps40
  go_wp2
  go_ret
  exact ⟨rfl, rfl⟩

set_option maxHeartbeats 800000 in
theorem Of_Nil (txt : Nat → List UInt8) (w : World) (ad : Nat → Addr) (h : ErrSet allErrs txt w ad) (hu : Unlike txt) :
    Calls Tryd.prog 40 #[E (ad 4)] w fun e w' => e = .returned (.int .i64 15) ∧ w' = w := by
  have cArg := (h 0 (by decide)).1.cell
  have cShort := (h 1 (by decide)).1.cell
  have cForm := (h 2 (by decide)).1.cell
  have cLong := (h 3 (by decide)).1.cell
  have cSum := (h 5 (by decide)).1.cell
  have cIo := (h 6 (by decide)).1.cell
  have cDown := (h 7 (by decide)).1.cell
  have cGone := (h 8 (by decide)).1.cell
  have cThere := (h 9 (by decide)).1.cell
  have cImage := (h 10 (by decide)).1.cell
  have cGap := (h 11 (by decide)).1.cell
  have cLog := (h 12 (by decide)).1.cell
  have cSick := (h 13 (by decide)).1.cell
  have cConfig := (h 14 (by decide)).1.cell
  have cNil := (h 4 (by decide)).1.cell
  have nArg := h.other hu 4 0 (by decide) (by decide) (by decide)
  have nShort := h.other hu 4 1 (by decide) (by decide) (by decide)
  have nForm := h.other hu 4 2 (by decide) (by decide) (by decide)
  have nLong := h.other hu 4 3 (by decide) (by decide) (by decide)
  have nSum := h.other hu 4 5 (by decide) (by decide) (by decide)
  have nIo := h.other hu 4 6 (by decide) (by decide) (by decide)
  have nDown := h.other hu 4 7 (by decide) (by decide) (by decide)
  have nGone := h.other hu 4 8 (by decide) (by decide) (by decide)
  have nThere := h.other hu 4 9 (by decide) (by decide) (by decide)
  have nImage := h.other hu 4 10 (by decide) (by decide) (by decide)
  have nGap := h.other hu 4 11 (by decide) (by decide) (by decide)
  have nLog := h.other hu 4 12 (by decide) (by decide) (by decide)
  have nSick := h.other hu 4 13 (by decide) (by decide) (by decide)
  have nConfig := h.other hu 4 14 (by decide) (by decide) (by decide)
  have sNil := eq_same (ad 4)
  clear h hu
  generalize ad 0 = aArg at *
  generalize ad 1 = aShort at *
  generalize ad 2 = aForm at *
  generalize ad 3 = aLong at *
  generalize ad 5 = aSum at *
  generalize ad 6 = aIo at *
  generalize ad 7 = aDown at *
  generalize ad 8 = aGone at *
  generalize ad 9 = aThere at *
  generalize ad 10 = aImage at *
  generalize ad 11 = aGap at *
  generalize ad 12 = aLog at *
  generalize ad 13 = aSick at *
  generalize ad 14 = aConfig at *
  generalize ad 4 = aNil at *
  go_enter Tryd.func40, Tryd.ntmps40
  go_wp2
  go_ret
  exact ⟨rfl, rfl⟩

/-- turnstilesame.Is where Of answers k. -/
theorem Is_of (v : Value) (k d : Nat) (w : World) (h : Calls Tryd.prog 40 #[v] w fun e w' => e = .returned (.int .i64 (k : Int)) ∧ w' = w) :
    Calls Tryd.prog 19 #[v, .int .i64 (d : Int)] w fun e w' => e = .returned (.bool (decide (k = d))) ∧ w' = w := by
  have he : Hid (((k : Int) == (d : Int)) = decide (k = d)) := by
    show _ = _
    by_cases h : k = d
    · simp [h]
    · simp [h]; omega
  go_enter Tryd.func19, Tryd.ntmps19
  go_wp2_with fail
  refine h.mono ?_
  rintro e w1 ⟨rfl, rfl⟩
  clear h
  go_wp2
  go_ret
  exact ⟨congrArg (fun b => Ending.returned (.bool b)) he.out, rfl⟩
end Go.Proofs.YtcllenlpoknakaaDoor

set_option linter.unusedVariables false
namespace Go.Proofs.YtcllenlpoknakaaDoor
open Go Go.RowKit Go.ChangeShapes Go.WideShapes

theorem Tryd.cellsU8 : Tryd.prog.cellsOf 5 = 1 := by kernel_rfl
theorem Tryd.bytesU8 : Tryd.prog.bytesOf 5 = 1 := by kernel_rfl

theorem addr_plain {w : World} {a : Addr} {v : Value} (h : w.cell? a = some v) : a = ⟨a.block, a.off, none⟩ := by
  obtain ⟨b, o, s⟩ := a
  unfold World.cell? at h
  cases s with
  | none => rfl
  | some s =>
    split at h
    · simp at h
    · cases h

theorem open_bytes {H : Type} {enc : TypeId × Value → H} {W : World} {v : Value} {d : DataW H} {p : List MemPlace} (hv : ∃ a n c, v = .slice a n c)
    (h : DataW.Trod enc Tryd.prog W 0 (fun _ => true) true 33 v d p) :
    ∃ bs, Sl 0 W v bs ∧ ((d = .nil ∧ bs = []) ∨ ∃ elems spare, d = .slice elems spare ∧ elems.length = bs.length) := by
  obtain ⟨a0, n0, c0, rfl⟩ := hv
  obtain ⟨fuel, hf⟩ := h
  rcases open_ints Tryd.underlying33 Tryd.underlying5 Tryd.cellsU8 hf with ⟨hcs, hx⟩ | ⟨a, len', cap', zs, hcs, _, hl, hm, hz, hx, hcell, hwz⟩
  · simp [Value.cells] at hcs
    obtain ⟨rfl, rfl, rfl⟩ := hcs
    simp only [Prod.mk.injEq] at hx
    exact ⟨[], Sl.nil 0 W, .inl ⟨hx.1, rfl⟩⟩
  · simp [Value.cells] at hcs
    obtain ⟨rfl, rfl, rfl⟩ := hcs
    simp only [Prod.mk.injEq] at hx
    simp only [if_true] at hz
    have hlen : ((zs.take n0).map fun z => UInt8.ofNat z.toNat).length = n0 := by simp; omega
    refine ⟨(zs.take n0).map fun z => UInt8.ofNat z.toNat, ?_, .inr ⟨_, _, hx.1, by simp [lits]⟩⟩
    refine ⟨some a, c0, by rw [hlen], by rw [hlen]; exact hl, (by intro e; cases e), fun hne => ?_⟩
    have hn0 : 0 < n0 := by rw [← hlen]; exact List.length_pos_iff.2 hne
    have hc0 := hcell 0 (by omega)
    have ha : a = ⟨a.block, a.off, none⟩ := by
      have : a.add 0 = a := by simp [Addr.add]
      rw [this] at hc0
      exact addr_plain hc0
    refine ⟨a.block, a.off, congrArg some ha, Nat.zero_le _, ?_⟩
    intro i hi
    rw [hlen] at hi
    have hc := hcell i (by omega)
    rw [ha, Addr.add_lit] at hc
    rw [hc]
    have hzi : i < zs.length := by omega
    have hb := bounds_u8 (hwz (zs[i]) (List.getElem_mem hzi))
    have e1 : zs.getD i 0 = zs[i] := by simp [List.getD, hzi]
    simp only [B, List.getElem_map, List.getElem_take, e1]
    congr 2
    rw [UInt8.toNat_ofNat']
    omega

/-- The bound that the form itself lays on a slice of bytes. -/
theorem bytes_bound {H : Type} {ts : List TypeId} {ds : List (DataW H)} {j : Nat} {d : DataW H} {bs : List UInt8} (hsz : (DataW.weightsEach Tryd.prog ts ds).all (· ≤ reachBytes) = true) (ht : ts[j]? = some 33) (hd : ds[j]? = some d)
    (h : (d = .nil ∧ bs = []) ∨ ∃ elems spare, d = .slice elems spare ∧ elems.length = bs.length) : bs.length ≤ 140737488351232 := by
  rcases h with ⟨_, rfl⟩ | ⟨elems, spare, rfl, he⟩
  · simp
  · have := sized_slice hsz (j := j) (t := 33) (e := 5) ht hd Tryd.underlying33
    rw [Tryd.bytesU8] at this
    simp only [reachBytes] at this
    omega

theorem Tryd.readable : Tryd.prog.readableRec 33 = true := by kernel_rfl
theorem Tryd.laidOut : laidOutB Tryd.prog = true := by kernel_rfl
end Go.Proofs.YtcllenlpoknakaaDoor

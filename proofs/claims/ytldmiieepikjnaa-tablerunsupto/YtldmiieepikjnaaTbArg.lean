/- table: a slice of Ops among the arguments (a kind, a place, a key, a value), bounded by the form's own reach. Own work. -/
import Derived.Test.YtldmiieepikjnaaTbTree
import Derived.Test.YtldmiieepikjnaaTbRef1
import Derived.Test.YtldmiieepikjnaaRows
import Derived.Deep.Slices
import Derived.SizedLaws
import Derived.ChangeSame
import Derived.OpenShut
import Derived.ProofKit
set_option linter.unusedVariables false
namespace Go.Proofs.Ytldmiieepikjnaa
open Go Go.RowKit Go.ChangeShapes Go.WideShapes

structure OpT where
  kind : Int
  on : Int
  key : ByteArray
  val : Int
def OpTAt (w : World) (b o : Nat) (q : OpT) : Prop := w.cell? ⟨b, o, none⟩ = some (.int .i64 q.kind) ∧ w.cell? ⟨b, o + 1, none⟩ = some (.int .i64 q.on) ∧ w.cell? ⟨b, o + 2, none⟩ = some (.string q.key) ∧ w.cell? ⟨b, o + 3, none⟩ = some (.int .i64 q.val)
def OpsT (w : World) (v : Value) (qs : List OpT) : Prop := ∃ ao cap, v = .slice ao qs.length cap ∧ (qs ≠ [] → ∃ b o, ao = some ⟨b, o, none⟩ ∧ ∀ i (h : i < qs.length), OpTAt w b (o + i * 4) qs[i])
theorem OpTAt.up {w w' : World} {b o : Nat} {q : OpT} (h : OpTAt w b o q) (u : Up w w') : OpTAt w' b o q :=
  ⟨(u.cell (World.block_lt_of_cell? w _ h.1)).trans h.1, (u.cell (World.block_lt_of_cell? w _ h.2.1)).trans h.2.1, (u.cell (World.block_lt_of_cell? w _ h.2.2.1)).trans h.2.2.1, (u.cell (World.block_lt_of_cell? w _ h.2.2.2)).trans h.2.2.2⟩

theorem Try.cellsOpT : Try.prog.cellsOf 31 = 4 := by kernel_rfl
theorem Try.bytesOpT : Try.prog.bytesOf 31 = 40 := by kernel_rfl
theorem Try.cellsIntT : Try.prog.cellsOf 3 = 1 := by kernel_rfl
theorem Try.cellsStrT : Try.prog.cellsOf 9 = 1 := by kernel_rfl
theorem Try.readableOpsT : Try.prog.readableRec 22 = true := by kernel_rfl
theorem Try.laidOutT : laidOutB Try.prog = true := by kernel_rfl
theorem addr_plainT {w : World} {a : Addr} {v : Value} (h : w.cell? a = some v) : a = ⟨a.block, a.off, none⟩ := by
  obtain ⟨b, o, s⟩ := a
  unfold World.cell? at h
  cases s with
  | none => rfl
  | some s =>
    split at h
    · simp at h
    · cases h
theorem all_partT {H : Type} {P : Program} {e : TypeId} {d : DataW H} : ∀ {l : List (DataW H)}, (DataW.weightsAll P e l).all (· ≤ reachBytes) = true → d ∈ l → (DataW.weights P e d).all (· ≤ reachBytes) = true
  | [], _, hd => by cases hd
  | x :: l, hw, hd => by
    simp only [DataW.weightsAll, List.all_append, Bool.and_eq_true] at hw
    rcases List.mem_cons.1 hd with rfl | hd
    · exact hw.1
    · exact all_partT hw.2 hd

set_option maxRecDepth 20000 in
theorem open_opT {H : Type} {enc : TypeId × Value → H} {W : World} {b o n : Nat} {cs : List Value} {x : DataW H × List MemPlace} (hc : W.cells? 0 ⟨b, o, none⟩ 4 = some cs)
    (h : DataW.trod enc Try.prog W 0 (fun _ => true) true n 31 cs = some x) :
    ∃ p : OpT, OpTAt W b o p ∧ ((DataW.weights Try.prog 31 x.1).all (· ≤ reachBytes) = true → KeyOk p.key) := by
  obtain ⟨xs, m, _, rfl, hl, hlen, hf⟩ := DataW.trod_struct Try.underlying31 h
  rw [Try.cellsOpT] at hl
  match cs, hl with
  | [c0, c1, c2, c3], _ =>
    match xs, hlen with
    | [y0, y1, y2, y3], _ =>
      have f0 : DataW.trod enc Try.prog W 0 (fun _ => true) true m 3 (([c0, c1, c2, c3].drop 0).take (Try.prog.cellsOf 3)) = some y0 := hf 0 _ rfl
      have f1 : DataW.trod enc Try.prog W 0 (fun _ => true) true m 3 (([c0, c1, c2, c3].drop 1).take (Try.prog.cellsOf 3)) = some y1 := hf 1 _ rfl
      have f2 : DataW.trod enc Try.prog W 0 (fun _ => true) true m 9 (([c0, c1, c2, c3].drop 2).take (Try.prog.cellsOf 9)) = some y2 := hf 2 _ rfl
      have f3 : DataW.trod enc Try.prog W 0 (fun _ => true) true m 3 (([c0, c1, c2, c3].drop 3).take (Try.prog.cellsOf 3)) = some y3 := hf 3 _ rfl
      rw [Try.cellsIntT] at f0 f1 f3
      rw [Try.cellsStrT] at f2
      simp at f0 f1 f2 f3
      obtain ⟨k, e0, _, _⟩ := DataW.trod_int Try.underlying3 f0
      obtain ⟨q, e1, _, _⟩ := DataW.trod_int Try.underlying3 f1
      obtain ⟨s, e2, e2', _⟩ := DataW.trod_string Try.underlying9 f2
      obtain ⟨z, e3, _, _⟩ := DataW.trod_int Try.underlying3 f3
      simp at e0 e1 e2 e3
      subst e0 e1 e2 e3
      refine ⟨⟨k, q, s, z⟩, ?_, fun hw => ?_⟩
      · unfold World.cells? at hc
        rw [if_pos (Nat.zero_le _)] at hc
        have hr : List.range 4 = [0, 1, 2, 3] := by decide
        rw [hr] at hc
        simp only [List.mapM_cons, List.mapM_nil, Addr.add_lit, Nat.add_zero] at hc
        simp only [Option.bind_eq_bind, Option.bind_eq_some_iff, Option.pure_def, Option.some.injEq] at hc
        obtain ⟨a0, h0, r0, ⟨a1, h1, r1, ⟨a2, h2, r2, ⟨a3, h3, r3, h4, h5⟩, h6⟩, h7⟩, h8⟩ := hc
        subst h4 h5 h6 h7
        simp at h8
        obtain ⟨rfl, rfl, rfl, rfl⟩ := h8
        exact ⟨h0, h1, h2, h3⟩
      · have e : DataW.weights Try.prog 31 (.agg ([y0, y1, y2, y3].map (·.1))) = DataW.weightsEach Try.prog [3, 3, 9, 3] [y0.1, y1.1, y2.1, y3.1] := by
          simp only [DataW.weights, Try.underlying31]
          rfl
        rw [e] at hw
        have hs3 := sized_string hw (j := 2) (t := 9) (bytes := s.data.toList) rfl (by rw [e2']; rfl)
        simp only [reachBytes] at hs3
        have hsz : s.size = s.data.toList.length := rfl
        show s.size ≤ _
        omega

set_option maxRecDepth 20000 in
theorem open_opsT {H : Type} {enc : TypeId × Value → H} {W : World} {v : Value} {d : DataW H} {p : List MemPlace} (hv : ∃ a n c, v = .slice a n c)
    (h : DataW.Trod enc Try.prog W 0 (fun _ => true) true 22 v d p) :
    ∃ qs, OpsT W v qs ∧ ((DataW.weights Try.prog 22 d).all (· ≤ reachBytes) = true → qs.length ≤ 3518437208780 ∧ ∀ q ∈ qs, KeyOk q.key) := by
  obtain ⟨a0, n0, c0, rfl⟩ := hv
  obtain ⟨fuel, hf⟩ := h
  rcases Go.Deep.open_slice Try.underlying22 hf with ⟨hcs, hx⟩ | ⟨a, len, cap, m, n, D, Pl, hcs, _, hl, hm, hm2, hx, hel⟩
  · simp [Value.cells] at hcs
    obtain ⟨rfl, rfl, rfl⟩ := hcs
    exact ⟨[], ⟨none, 0, rfl, fun h => absurd rfl h⟩, fun _ => ⟨by simp, fun p hp => by cases hp⟩⟩
  · simp [Value.cells] at hcs
    obtain ⟨rfl, rfl, rfl⟩ := hcs
    simp only [if_true] at hm2
    subst hm2
    simp only [Prod.mk.injEq] at hx
    obtain ⟨rfl, _⟩ := hx
    rw [Try.cellsOpT] at hel
    by_cases hn : n0 = 0
    · subst hn
      exact ⟨[], ⟨some a, m, rfl, fun h => absurd rfl h⟩, fun _ => ⟨by simp, fun p hp => by cases hp⟩⟩
    · have hplain : a = ⟨a.block, a.off, none⟩ := by
        obtain ⟨cs', h1, _⟩ := hel 0 (by omega)
        unfold World.cells? at h1
        rw [if_pos (Nat.zero_le _)] at h1
        have hr : List.range 4 = [0, 1, 2, 3] := by decide
        rw [hr] at h1
        simp only [List.mapM_cons, Option.bind_eq_bind, Option.bind_eq_some_iff] at h1
        obtain ⟨x, h2, _⟩ := h1
        have e : (a.add (0 * 4)).add 0 = a := by simp [Addr.add]
        rw [e] at h2
        exact addr_plainT h2
      have each : ∀ i, i < n0 → ∃ p : OpT, OpTAt W a.block (a.off + i * 4) p ∧ ((DataW.weights Try.prog 31 (D i)).all (· ≤ reachBytes) = true → KeyOk p.key) := by
        intro i hi
        obtain ⟨cs', h1, h2⟩ := hel i (by omega)
        rw [hplain, Addr.add_lit] at h1
        exact open_opT h1 h2
      have hch : ∃ f : Nat → OpT, ∀ i, i < n0 → OpTAt W a.block (a.off + i * 4) (f i) ∧ ((DataW.weights Try.prog 31 (D i)).all (· ≤ reachBytes) = true → KeyOk (f i).key) := by
        refine ⟨fun i => if h : i < n0 then Classical.choose (each i h) else ⟨0, 0, .empty, 0⟩, fun i hi => ?_⟩
        simp only [dif_pos hi]
        exact Classical.choose_spec (each i hi)
      obtain ⟨f, hf⟩ := hch
      have hlen : ((List.range n0).map f).length = n0 := by simp
      refine ⟨(List.range n0).map f, ⟨some a, m, by rw [hlen], fun _ => ⟨a.block, a.off, congrArg some hplain, ?_⟩⟩, fun hw => ?_⟩
      · intro i hi
        rw [hlen] at hi
        simpa using (hf i hi).1
      · simp only [DataW.weights, Try.underlying22, List.all_cons, List.all_append, Bool.and_eq_true] at hw
        obtain ⟨hw1, hw2, _⟩ := hw
        have hw1' := of_decide_eq_true hw1
        rw [Try.bytesOpT, List.length_map, List.length_range] at hw1'
        refine ⟨?_, ?_⟩
        · rw [hlen]
          simp only [reachBytes] at hw1'
          omega
        · intro p hp
          obtain ⟨i, hi, rfl⟩ := List.mem_map.1 hp
          have hi' := List.mem_range.1 hi
          exact (hf i hi').2 (all_partT hw2 (List.mem_map.2 ⟨i, List.mem_range.2 hi', rfl⟩))
end Go.Proofs.Ytldmiieepikjnaa

/- table: a Run by value among the arguments, by its bulk. Own work. -/
import Derived.Test.YtldmiieepikjnaaTbBulk
import Derived.ChangeMaps5
import Derived.Lib.SmallJoins
set_option linter.unusedVariables false
namespace Go.Proofs.Ytldmiieepikjnaa
open Go Go.RowKit Go.ChangeShapes Go.WideShapes Go.Joins

theorem Try.cellsRunT : Try.prog.cellsOf 44 = 4 := by kernel_rfl
theorem Try.cellsOpsT : Try.prog.cellsOf 22 = 1 := by kernel_rfl
theorem Try.readableRunT : Try.prog.readableRec 44 = true := by kernel_rfl
set_option maxRecDepth 20000 in
theorem open_opB {H : Type} {enc : TypeId × Value → H} {W : World} {b o n : Nat} {cs : List Value} {x : DataW H × List MemPlace} (hc : W.cells? 0 ⟨b, o, none⟩ 4 = some cs)
    (h : DataW.trod enc Try.prog W 0 (fun _ => true) true n 31 cs = some x) :
    ∃ p : OpT, OpTAt W b o p ∧ p.key.size ≤ Rows.uptoBulk x.1 := by
  obtain ⟨xs, m, _, rfl, hl, hlen, hf⟩ := DataW.trod_struct Try.underlying31 h
  rw [Try.cellsOpT] at hl
  match cs, hl with
  | [c0, c1, c2, c3], _ =>
    match xs, hlen with
    | [y0, y1, y2, y3], _ =>
      have f0 : DataW.trod enc Try.prog W 0 (fun _ => true) true m 3 (([c0, c1, c2, c3].drop 0).take (Try.prog.cellsOf 3)) = some y0 := hf 0 _ rfl
      have f1 : DataW.trod enc Try.prog W 0 (fun _ => true) true m 3 (([c0, c1, c2, c3].drop 1).take (Try.prog.cellsOf 3)) = some y1 := hf 1 _ rfl
      have f2 : DataW.trod enc Try.prog W 0 (fun _ => true) true m 9 (([c0, c1, c2, c3].drop 2).take (Try.prog.cellsOf 9)) = some y2 := hf 2 _ rfl
      have f3 : DataW.trod enc Try.prog W 0 (fun _ => true) true m 3 (([c0, c1, c2, c3].drop 3).take (Try.prog.cellsOf 3)) = some y3 := hf 3 _ rfl
      rw [Try.cellsIntT] at f0 f1 f3
      rw [Try.cellsStrT] at f2
      simp at f0 f1 f2 f3
      obtain ⟨k, e0, _, _⟩ := DataW.trod_int Try.underlying3 f0
      obtain ⟨q, e1, _, _⟩ := DataW.trod_int Try.underlying3 f1
      obtain ⟨s, e2, e2', _⟩ := DataW.trod_string Try.underlying9 f2
      obtain ⟨z, e3, _, _⟩ := DataW.trod_int Try.underlying3 f3
      simp at e0 e1 e2 e3
      subst e0 e1 e2 e3
      refine ⟨⟨k, q, s, z⟩, ?_, ?_⟩
      · unfold World.cells? at hc
        rw [if_pos (Nat.zero_le _)] at hc
        have hr : List.range 4 = [0, 1, 2, 3] := by decide
        rw [hr] at hc
        simp only [List.mapM_cons, List.mapM_nil, Addr.add_lit, Nat.add_zero] at hc
        simp only [Option.bind_eq_bind, Option.bind_eq_some_iff, Option.pure_def, Option.some.injEq] at hc
        obtain ⟨a0, h0, r0, ⟨a1, h1, r1, ⟨a2, h2, r2, ⟨a3, h3, r3, h4, h5⟩, h6⟩, h7⟩, h8⟩ := hc
        subst h4 h5 h6 h7
        simp at h8
        obtain ⟨rfl, rfl, rfl, rfl⟩ := h8
        exact ⟨h0, h1, h2, h3⟩
      · have h1 : Rows.uptoBulk y2.1 ≤ Rows.uptoBulkAll ([y0, y1, y2, y3].map (·.1)) := bulk_part (by simp)
        have h2 : s.size ≤ Rows.uptoBulk y2.1 := by
          rw [e2']
          simp only [Rows.uptoBulk]
          have : s.size = s.data.toList.length := rfl
          omega
        simp only [Rows.uptoBulk]
        show s.size ≤ _
        omega
set_option maxRecDepth 20000 in
theorem open_opsB {H : Type} {enc : TypeId × Value → H} {W : World} {c : Value} {n' : Nat} {x : DataW H × List MemPlace}
    (hf : DataW.trod enc Try.prog W 0 (fun _ => true) true n' 22 [c] = some x) :
    ∃ qs, OpsT W c qs ∧ qs.length ≤ Rows.uptoBulk x.1 ∧ ∀ q ∈ qs, q.key.size ≤ Rows.uptoBulk x.1 := by
  rcases Go.Deep.open_slice Try.underlying22 hf with ⟨hcs, hx⟩ | ⟨a, len, cap, m, n, D, Pl, hcs, _, hl, hm, hm2, hx, hel⟩
  · simp at hcs
    subst hcs
    exact ⟨[], ⟨none, 0, rfl, fun h => absurd rfl h⟩, by simp, fun p hp => by cases hp⟩
  · simp at hcs
    subst hcs
    simp only [if_true] at hm2
    subst hm2
    subst hx
    rw [Try.cellsOpT] at hel
    by_cases hn : len = 0
    · subst hn
      exact ⟨[], ⟨some a, m, rfl, fun h => absurd rfl h⟩, by simp, fun p hp => by cases hp⟩
    · have hplain : a = ⟨a.block, a.off, none⟩ := by
        obtain ⟨cs', h1, _⟩ := hel 0 (by omega)
        unfold World.cells? at h1
        rw [if_pos (Nat.zero_le _)] at h1
        have hr : List.range 4 = [0, 1, 2, 3] := by decide
        rw [hr] at h1
        simp only [List.mapM_cons, Option.bind_eq_bind, Option.bind_eq_some_iff] at h1
        obtain ⟨x, h2, _⟩ := h1
        have e : (a.add (0 * 4)).add 0 = a := by simp [Addr.add]
        rw [e] at h2
        exact addr_plainT h2
      have each : ∀ i, i < len → ∃ p : OpT, OpTAt W a.block (a.off + i * 4) p ∧ p.key.size ≤ Rows.uptoBulk (D i) := by
        intro i hi
        obtain ⟨cs', h1, h2⟩ := hel i (by omega)
        rw [hplain, Addr.add_lit] at h1
        exact open_opB h1 h2
      have hch : ∃ f : Nat → OpT, ∀ i, i < len → OpTAt W a.block (a.off + i * 4) (f i) ∧ (f i).key.size ≤ Rows.uptoBulk (D i) := by
        refine ⟨fun i => if h : i < len then Classical.choose (each i h) else ⟨0, 0, .empty, 0⟩, fun i hi => ?_⟩
        simp only [dif_pos hi]
        exact Classical.choose_spec (each i hi)
      obtain ⟨f, hf⟩ := hch
      have hlen : ((List.range len).map f).length = len := by simp
      refine ⟨(List.range len).map f, ⟨some a, m, by rw [hlen], fun _ => ⟨a.block, a.off, congrArg some hplain, ?_⟩⟩, ?_, ?_⟩
      · intro i hi
        rw [hlen] at hi
        simpa using (hf i hi).1
      · rw [hlen]
        simp only [Rows.uptoBulk]
        have := bulk_len ((List.range len).map D)
        simp at this
        omega
      · intro p hp
        obtain ⟨i, hi, rfl⟩ := List.mem_map.1 hp
        have hi' := List.mem_range.1 hi
        have h1 : Rows.uptoBulk (D i) ≤ Rows.uptoBulkAll ((List.range len).map D) := bulk_part (List.mem_map.2 ⟨i, hi, rfl⟩)
        have h2 := (hf i hi').2
        simp only [Rows.uptoBulk]
        omega
set_option maxRecDepth 20000 in
theorem open_run {H : Type} {enc : TypeId × Value → H} {W : World} {r : Reach} {b0 : Nat} {v : Value} {d : DataW H} {p : List MemPlace}
    (hv : Value.okWide Try.prog W r b0 44 v) (h : DataW.Trod enc Try.prog W 0 (fun _ => true) true 44 v d p) :
    ∃ (lim : Int) (fv : Value) (key : ByteArray) (wv : Value) (fs ws : List OpT), v = .agg #[.int .i64 lim, fv, .string key, wv] ∧ OpsT W fv fs ∧ OpsT W wv ws ∧ fs.length ≤ Rows.uptoBulk d ∧ ws.length ≤ Rows.uptoBulk d ∧ (∀ q ∈ fs, q.key.size ≤ Rows.uptoBulk d) ∧ (∀ q ∈ ws, q.key.size ≤ Rows.uptoBulk d) ∧ key.size ≤ Rows.uptoBulk d := by
  obtain ⟨cs, rfl, hsz⟩ := okWide_struct Try.underlying44 hv
  obtain ⟨fuel, hf0⟩ := h
  obtain ⟨xs, m, _, hd, hl, hlen, hf⟩ := DataW.trod_struct Try.underlying44 hf0
  simp only [Prod.mk.injEq] at hd
  obtain ⟨rfl, _⟩ := hd
  rw [Try.cellsRunT] at hl
  obtain ⟨l⟩ := cs
  simp only [Value.cells] at hl hf
  match l, hl with
  | [c0, c1, c2, c3], _ =>
    match xs, hlen with
    | [y0, y1, y2, y3], _ =>
      have f0 : DataW.trod enc Try.prog W 0 (fun _ => true) true m 3 (([c0, c1, c2, c3].drop 0).take (Try.prog.cellsOf 3)) = some y0 := hf 0 _ rfl
      have f1 : DataW.trod enc Try.prog W 0 (fun _ => true) true m 22 (([c0, c1, c2, c3].drop 1).take (Try.prog.cellsOf 22)) = some y1 := hf 1 _ rfl
      have f2 : DataW.trod enc Try.prog W 0 (fun _ => true) true m 9 (([c0, c1, c2, c3].drop 2).take (Try.prog.cellsOf 9)) = some y2 := hf 2 _ rfl
      have f3 : DataW.trod enc Try.prog W 0 (fun _ => true) true m 22 (([c0, c1, c2, c3].drop 3).take (Try.prog.cellsOf 22)) = some y3 := hf 3 _ rfl
      rw [Try.cellsIntT] at f0
      rw [Try.cellsOpsT] at f1 f3
      rw [Try.cellsStrT] at f2
      simp at f0 f1 f2 f3
      obtain ⟨k, e0, _, _⟩ := DataW.trod_int Try.underlying3 f0
      obtain ⟨s, e2, e2', _⟩ := DataW.trod_string Try.underlying9 f2
      simp at e0 e2
      subst e0 e2
      obtain ⟨fs, a1, a2, a3⟩ := open_opsB f1
      obtain ⟨ws, b1, b2, b3⟩ := open_opsB f3
      have p1 : Rows.uptoBulk y1.1 ≤ Rows.uptoBulkAll ([y0, y1, y2, y3].map (·.1)) := bulk_part (by simp)
      have p2 : Rows.uptoBulk y2.1 ≤ Rows.uptoBulkAll ([y0, y1, y2, y3].map (·.1)) := bulk_part (by simp)
      have p3 : Rows.uptoBulk y3.1 ≤ Rows.uptoBulkAll ([y0, y1, y2, y3].map (·.1)) := bulk_part (by simp)
      have h2 : s.size ≤ Rows.uptoBulk y2.1 := by
        rw [e2']
        simp only [Rows.uptoBulk]
        have : s.size = s.data.toList.length := rfl
        omega
      simp only [Rows.uptoBulk]
      exact ⟨k, c1, s, c3, fs, ws, rfl, a1, b1, by omega, by omega, fun q hq => by have := a3 q hq; omega, fun q hq => by have := b3 q hq; omega, by omega⟩
end Go.Proofs.Ytldmiieepikjnaa

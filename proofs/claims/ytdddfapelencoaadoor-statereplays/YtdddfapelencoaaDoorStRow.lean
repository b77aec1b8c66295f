/- state: rows of cells whose elements have several cells each: copy and clear over them; entries as nine cells; slices that read as entries. Own work. -/
import Derived.Test.YtdddfapelencoaaDoorStNum
import Derived.Test.YtdddfapelencoaaDoorGcSat
import Derived.Test.YtdddfapelencoaaDoorLkC
import Derived.Laws.AppendOwn
import Derived.Laws.IdiomCopy
set_option linter.unusedVariables false
set_option linter.unusedSimpArgs false
namespace Go.Proofs.YtdddfapelencoaaDoor
open Go Go.RowKit

section
variable {P : Program}
/-- copy(dst, src), elements of k cells: all is read before anything is written. -/
theorem run_copyK (w : World) (dT sT ty elem : TypeId) (k b o dLen dCap : Nat) (a : Addr) (sLen sCap n : Nat) (cs : List Value)
    (hu : P.underlying dT = some (.slice elem)) (hs : (P.info? elem).map (·.size) = some k) (hn : Nat.min sLen dLen = n) (hl : cs.length = n * k)
    (hsrc : ∀ j v, cs[j]? = some v → w.cell? (a.add j) = some v) (hc : ∀ j, j < cs.length → (w.cell? ⟨b, o + j, none⟩).isSome = true) (hf : ∀ j, j < cs.length → w.frozen? ⟨b, o + j, none⟩ = false) (h1 : ∀ v ∈ cs, v.oneCell' = true) :
    (Builtin.copy_ #[dT, sT] ty #[.slice (some ⟨b, o, none⟩) dLen dCap, .slice (some a) sLen sCap]).run P w = .ok (goInt n) (w.setCells b o cs) := by
  have hload := run_loadCells_list (P := P) w a cs hsrc
  have hst := run_storeCells_cells (P := P) b o cs 0 w (by simpa using hc) (by simpa using hf) h1
  cases hq : P.info? elem with
  | none => simp [hq] at hs
  | some i =>
    have hi : i.size = k := by simpa [hq] using hs
    rw [hl] at hload
    simp [Builtin.copy_, run_underlying hu, Builtin.lenOf, Builtin.firstCells, sizeOf, typeInfo, hq, hi, hn, hload, hst]

/-- clear(s), n elements whose zero has the cells zs. -/
theorem run_clearK (w : World) (t e ty : TypeId) (z : Value) (ht : P.underlying t = some (.slice e)) (hv : ∀ w, (zeroValue e).run P w = .ok z w) (zs : List Value) (n : Nat) (hz : (Builtin.zeroCells z.cells n).toList = zs) (h1 : ∀ v ∈ zs, v.oneCell' = true) (b o c : Nat) (hn : 0 < n)
    (hc : ∀ j, j < zs.length → (w.cell? ⟨b, o + j, none⟩).isSome = true) (hf : ∀ j, j < zs.length → w.frozen? ⟨b, o + j, none⟩ = false) :
    (Builtin.clear_ #[t] ty #[.slice (some ⟨b, o, none⟩) n c]).run P w = .ok (.tuple #[]) (w.setCells b o zs) := by
  have hst := run_storeCells_cells (P := P) b o zs 0 w (by simpa using hc) (by simpa using hf) h1
  simp only [Nat.add_zero] at hst
  obtain ⟨m, rfl⟩ : ∃ m, n = m + 1 := ⟨n - 1, by omega⟩
  simp [Builtin.clear_, run_underlying ht, hv, hz, hst]
end

/-- An entry's cells, as a value. -/
abbrev EC (x : Ent) : List Value := [.string x.1, .int .i64 x.2.1.k, V x.2.1.g, V x.2.1.s, V x.2.1.l, V x.2.1.p, V x.2.2.t, V x.2.2.i, V x.2.2.c]
abbrev EV (x : Ent) : Value := .agg #[.string x.1, .int .i64 x.2.1.k, V x.2.1.g, V x.2.1.s, V x.2.1.l, V x.2.1.p, V x.2.2.t, V x.2.2.i, V x.2.2.c]
def Ecs (xs : List Ent) : List Value := xs.flatMap EC
theorem Ecs_nil : Ecs [] = [] := rfl
theorem Ecs_cons (x : Ent) (xs : List Ent) : Ecs (x :: xs) = EC x ++ Ecs xs := rfl
theorem Ecs_app (xs ys : List Ent) : Ecs (xs ++ ys) = Ecs xs ++ Ecs ys := List.flatMap_append
theorem Ecs_length : ∀ xs : List Ent, (Ecs xs).length = xs.length * 9
  | [] => rfl
  | x :: xs => by rw [Ecs_cons, List.length_append, Ecs_length xs, List.length_cons]; simp; omega
theorem Ecs_one : ∀ (xs : List Ent), ∀ u ∈ Ecs xs, u.oneCell' = true := fun xs u hu => by
  obtain ⟨x, _, hx⟩ := List.mem_flatMap.1 hu
  simp only [EC, List.mem_cons, List.not_mem_nil, or_false] at hx
  rcases hx with rfl | rfl | rfl | rfl | rfl | rfl | rfl | rfl | rfl <;> rfl
theorem Ecs_at : ∀ (xs : List Ent) (i : Nat) (h : i < xs.length) (j : Nat), j < 9 → (Ecs xs)[i * 9 + j]? = (EC xs[i])[j]?
  | x :: xs, 0, _, j, hj => by rw [Ecs_cons, List.getElem?_append_left (by simp; omega)]; simp
  | x :: xs, i + 1, h, j, hj => by
    rw [Ecs_cons, List.getElem?_append_right (by simp; omega)]
    have := Ecs_at xs i (by simpa using h) j hj
    rw [show (i + 1) * 9 + j - (EC x).length = i * 9 + j by simp; omega, this]
    rfl
theorem Ecs_take : ∀ (xs : List Ent) (n : Nat), (Ecs xs).take (n * 9) = Ecs (xs.take n)
  | [], n => by simp [Ecs_nil]
  | x :: xs, 0 => by simp [Ecs_nil]
  | x :: xs, n + 1 => by
    rw [List.take_succ_cons, Ecs_cons, Ecs_cons, List.take_append, ← Ecs_take xs n, List.take_of_length_le (by simp; omega)]
    congr 2
    simp
    omega
theorem Ecs_drop : ∀ (xs : List Ent) (n : Nat), (Ecs xs).drop (n * 9) = Ecs (xs.drop n)
  | [], n => by simp [Ecs_nil]
  | x :: xs, 0 => by simp
  | x :: xs, n + 1 => by
    rw [List.drop_succ_cons, Ecs_cons, List.drop_append, ← Ecs_drop xs n, List.drop_of_length_le (by simp; omega), List.nil_append]
    congr 1
    simp
    omega

/-- An entry at nine cells. -/
def EntAt (w : World) (b o : Nat) (x : Ent) : Prop :=
  w.cell? ⟨b, o, none⟩ = some (.string x.1) ∧ w.cell? ⟨b, o + 1, none⟩ = some (.int .i64 x.2.1.k) ∧ w.cell? ⟨b, o + 2, none⟩ = some (V x.2.1.g) ∧ w.cell? ⟨b, o + 3, none⟩ = some (V x.2.1.s) ∧ w.cell? ⟨b, o + 4, none⟩ = some (V x.2.1.l) ∧
    w.cell? ⟨b, o + 5, none⟩ = some (V x.2.1.p) ∧ w.cell? ⟨b, o + 6, none⟩ = some (V x.2.2.t) ∧ w.cell? ⟨b, o + 7, none⟩ = some (V x.2.2.i) ∧ w.cell? ⟨b, o + 8, none⟩ = some (V x.2.2.c)
/-- Entries one behind the other, cell by cell. -/
def EntsAt (w : World) (b o : Nat) (xs : List Ent) : Prop := ∀ j u, (Ecs xs)[j]? = some u → w.cell? ⟨b, o + j, none⟩ = some u
theorem EntsAt.at {w : World} {b o : Nat} {xs : List Ent} (h : EntsAt w b o xs) (i : Nat) (hi : i < xs.length) : EntAt w b (o + i * 9) xs[i] := by
  have k := fun j hj u (hu : (EC xs[i])[j]? = some u) => h (i * 9 + j) u ((Ecs_at xs i hi j hj).trans hu)
  simp only [← Nat.add_assoc] at k
  exact ⟨k 0 (by decide) _ rfl, k 1 (by decide) _ rfl, k 2 (by decide) _ rfl, k 3 (by decide) _ rfl, k 4 (by decide) _ rfl, k 5 (by decide) _ rfl, k 6 (by decide) _ rfl, k 7 (by decide) _ rfl, k 8 (by decide) _ rfl⟩
theorem EntsAt.of {w : World} {b o : Nat} {xs : List Ent} (h : ∀ i (hi : i < xs.length), EntAt w b (o + i * 9) xs[i]) : EntsAt w b o xs := fun j u hu => by
  obtain ⟨hj, _⟩ := List.getElem?_eq_some_iff.1 hu
  rw [Ecs_length] at hj
  have hi : j / 9 < xs.length := by omega
  have hr : j % 9 < 9 := Nat.mod_lt _ (by decide)
  have e : j = j / 9 * 9 + j % 9 := by omega
  have c := h (j / 9) hi
  rw [e, Ecs_at xs (j / 9) hi (j % 9) hr] at hu
  obtain ⟨c0, c1, c2, c3, c4, c5, c6, c7, c8⟩ := c
  rw [e, ← Nat.add_assoc]
  generalize o + j / 9 * 9 = q at *
  generalize j % 9 = r at *
  match r, hr, hu with
  | 0, _, hu => simp at hu; rw [← hu]; exact c0
  | 1, _, hu => simp at hu; rw [← hu]; exact c1
  | 2, _, hu => simp at hu; rw [← hu]; exact c2
  | 3, _, hu => simp at hu; rw [← hu]; exact c3
  | 4, _, hu => simp at hu; rw [← hu]; exact c4
  | 5, _, hu => simp at hu; rw [← hu]; exact c5
  | 6, _, hu => simp at hu; rw [← hu]; exact c6
  | 7, _, hu => simp at hu; rw [← hu]; exact c7
  | 8, _, hu => simp at hu; rw [← hu]; exact c8
theorem EntsAt.lt {w : World} {b o : Nat} {xs : List Ent} (h : EntsAt w b o xs) (hn : xs ≠ []) : b < w.heap.size := by
  have hl : 0 < xs.length := List.length_pos_iff.2 hn
  exact World.block_lt_of_cell? w _ (h.at 0 hl).1
theorem EntsAt.block {w w' : World} {b o : Nat} {xs : List Ent} (h : EntsAt w b o xs) (hb : b < w.heap.size → w'.heap[b]? = w.heap[b]?) : EntsAt w' b o xs := fun j u hu => by
  have := h j u hu
  rw [World.cell?_of_block (hb (World.block_lt_of_cell? w _ this))]
  exact this

/-- A slice reads as entries. -/
def SlE (w : World) (v : Value) (xs : List Ent) : Prop := ∃ ao cap, v = .slice ao xs.length cap ∧ xs.length ≤ cap ∧ (ao = none → cap = 0) ∧ (xs ≠ [] → ∃ b o, ao = some ⟨b, o, none⟩ ∧ EntsAt w b o xs)
theorem SlE.up {w w' : World} {v : Value} {xs : List Ent} (h : SlE w v xs) (u : Up w w') : SlE w' v xs := by
  obtain ⟨ao, cap, rfl, hc, hn, hx⟩ := h
  refine ⟨ao, cap, rfl, hc, hn, fun hb => ?_⟩
  obtain ⟨b, o, rfl, ha⟩ := hx hb
  exact ⟨b, o, rfl, ha.block fun hl => u.block b hl⟩
theorem SlE.nil (w : World) : SlE w (.slice none 0 0) [] := ⟨none, 0, rfl, Nat.le_refl _, fun _ => rfl, fun h => absurd rfl h⟩
theorem SlE.shape {w : World} {v : Value} {xs : List Ent} (h : SlE w v xs) : ∃ ao cap, v = .slice ao xs.length cap := by obtain ⟨ao, cap, rfl, _⟩ := h; exact ⟨_, _, rfl⟩
/-- An own row of entries. -/
def OwnE (w : World) (base : Nat) (v : Value) (xs : List Ent) : Prop := w.ownsRow base 58 9 v xs.length (Ecs xs)
theorem OwnE.nil (w : World) (base : Nat) : OwnE w base (.slice none 0 0) [] := World.ownsRow_nil w base _ 9
theorem OwnE.up {w w' : World} {base : Nat} {v : Value} {xs : List Ent} (h : OwnE w base v xs) (u : Up w w') : OwnE w' base v xs := Touch.row h (Touch.of_up u []) (fun _ _ => by simp)
theorem OwnE.kept {w w' : World} {base : Nat} {v : Value} {xs : List Ent} {S : List Nat} (h : OwnE w base v xs) (t : Touch w w' S) (hk : ∀ k ∈ ob v, k ∉ S) : OwnE w' base v xs := Touch.row h t (fun k hk' => hk k (mem_ob.2 hk'))
theorem OwnE.rebase {w : World} {base base' : Nat} {v : Value} {xs : List Ent} (h : OwnE w base v xs) (hb : base' ≤ base) : OwnE w base' v xs := ownsRow_base h (fun k hk => Nat.le_trans hb (World.ownsRow.lt h k hk).1)
theorem OwnE.ge {w : World} {base : Nat} {v : Value} {xs : List Ent} (h : OwnE w base v xs) : ∀ k ∈ ob v, base ≤ k ∧ k < w.heap.size := fun k hk => World.ownsRow.lt h k (mem_ob.1 hk)
/-- An own row that isn't nil. -/
theorem OwnE.parts {w : World} {base : Nat} {v : Value} {xs : List Ent} (h : OwnE w base v xs) : (v = .slice none 0 0 ∧ xs = []) ∨
    ∃ g cap cur, v = .slice (some ⟨g, 0, none⟩) xs.length cap ∧ base ≤ g ∧ g < w.heap.size ∧ w.heap[g]? = some (.cells cur 58 (0, 0)) ∧ xs.length ≤ cap ∧ cap ≤ maxLen ∧ cur.size = cap * 9 ∧ cur.toList.take (xs.length * 9) = Ecs xs := by
  obtain ⟨hl, ⟨rfl, hn⟩ | ⟨g, cap, cur, rfl, hb, hg, hnc, hcm, hcs, ht⟩⟩ := h
  · exact .inl ⟨rfl, List.eq_nil_of_length_eq_zero hn⟩
  · exact .inr ⟨g, cap, cur, rfl, hb, (Array.getElem?_eq_some_iff.1 hg).1, hg, hnc, hcm, hcs, ht⟩
theorem OwnE.mk {w : World} {base g cap : Nat} {cur : Array Value} {xs : List Ent} (hb : base ≤ g) (hg : w.heap[g]? = some (.cells cur 58 (0, 0))) (hn : xs.length ≤ cap) (hm : cap ≤ maxLen) (hs : cur.size = cap * 9) (ht : cur.toList.take (xs.length * 9) = Ecs xs) :
    OwnE w base (.slice (some ⟨g, 0, none⟩) xs.length cap) xs := ⟨Ecs_length xs, .inr ⟨g, cap, cur, rfl, hb, hg, hn, hm, hs, ht⟩⟩
theorem row_ents {w : World} {g : Nat} {cur : Array Value} {t : TypeId} {n : Nat} {xs : List Ent} (hg : w.heap[g]? = some (.cells cur t (0, 0))) (ht : cur.toList.take n = Ecs xs) : EntsAt w g 0 xs := fun j u hu => by
  rw [← ht, List.getElem?_take] at hu
  split at hu
  · rw [cell_of_row w g _ cur _ (0, 0) hg, Nat.zero_add]
    simpa using hu
  · cases hu
theorem OwnE.sl {w : World} {base : Nat} {v : Value} {xs : List Ent} (h : OwnE w base v xs) : SlE w v xs := by
  rcases h.parts with ⟨rfl, rfl⟩ | ⟨g, cap, cur, rfl, hb, hlt, hg, hnc, hcm, hcs, ht⟩
  · exact SlE.nil w
  · exact ⟨some ⟨g, 0, none⟩, cap, rfl, hnc, (by intro e; cases e), fun _ => ⟨g, 0, rfl, row_ents hg ht⟩⟩
theorem OwnE.shape {w : World} {base : Nat} {v : Value} {xs : List Ent} (h : OwnE w base v xs) : ∃ ao cap, v = .slice ao xs.length cap := h.sl.shape

/-- A box of an entry. -/
theorem Box.c9 {w : World} {k : Nat} {a0 a1 a2 a3 a4 a5 a6 a7 a8 : Value} (h : Box w k #[a0, a1, a2, a3, a4, a5, a6, a7, a8]) : w.cell? ⟨k, 0, none⟩ = some a0 ∧ w.cell? ⟨k, 1, none⟩ = some a1 ∧ w.cell? ⟨k, 2, none⟩ = some a2 ∧ w.cell? ⟨k, 3, none⟩ = some a3 ∧ w.cell? ⟨k, 4, none⟩ = some a4 ∧ w.cell? ⟨k, 5, none⟩ = some a5 ∧ w.cell? ⟨k, 6, none⟩ = some a6 ∧ w.cell? ⟨k, 7, none⟩ = some a7 ∧ w.cell? ⟨k, 8, none⟩ = some a8 :=
  ⟨h.cell 0, h.cell 1, h.cell 2, h.cell 3, h.cell 4, h.cell 5, h.cell 6, h.cell 7, h.cell 8⟩
theorem Box.set9 {w : World} {k : Nat} {a0 a1 a2 a3 a4 a5 a6 a7 a8 : Value} (h : Box w k #[a0, a1, a2, a3, a4, a5, a6, a7, a8]) (a b c d e f x y z : Value) :
    Box (((((((((w.setCell ⟨k, 0, none⟩ a).setCell ⟨k, 1, none⟩ b).setCell ⟨k, 2, none⟩ c).setCell ⟨k, 3, none⟩ d).setCell ⟨k, 4, none⟩ e).setCell ⟨k, 5, none⟩ f).setCell ⟨k, 6, none⟩ x).setCell ⟨k, 7, none⟩ y).setCell ⟨k, 8, none⟩ z) k #[a, b, c, d, e, f, x, y, z] := by
  have h0 : Box (w.setCell ⟨k, 0, none⟩ a) k #[a, a1, a2, a3, a4, a5, a6, a7, a8] := h.set 0 a
  have h1 : Box ((w.setCell ⟨k, 0, none⟩ a).setCell ⟨k, 1, none⟩ b) k #[a, b, a2, a3, a4, a5, a6, a7, a8] := h0.set 1 b
  have h2 : Box (((w.setCell ⟨k, 0, none⟩ a).setCell ⟨k, 1, none⟩ b).setCell ⟨k, 2, none⟩ c) k #[a, b, c, a3, a4, a5, a6, a7, a8] := h1.set 2 c
  have h3 : Box ((((w.setCell ⟨k, 0, none⟩ a).setCell ⟨k, 1, none⟩ b).setCell ⟨k, 2, none⟩ c).setCell ⟨k, 3, none⟩ d) k #[a, b, c, d, a4, a5, a6, a7, a8] := h2.set 3 d
  have h4 : Box (((((w.setCell ⟨k, 0, none⟩ a).setCell ⟨k, 1, none⟩ b).setCell ⟨k, 2, none⟩ c).setCell ⟨k, 3, none⟩ d).setCell ⟨k, 4, none⟩ e) k #[a, b, c, d, e, a5, a6, a7, a8] := h3.set 4 e
  have h5 : Box ((((((w.setCell ⟨k, 0, none⟩ a).setCell ⟨k, 1, none⟩ b).setCell ⟨k, 2, none⟩ c).setCell ⟨k, 3, none⟩ d).setCell ⟨k, 4, none⟩ e).setCell ⟨k, 5, none⟩ f) k #[a, b, c, d, e, f, a6, a7, a8] := h4.set 5 f
  have h6 : Box (((((((w.setCell ⟨k, 0, none⟩ a).setCell ⟨k, 1, none⟩ b).setCell ⟨k, 2, none⟩ c).setCell ⟨k, 3, none⟩ d).setCell ⟨k, 4, none⟩ e).setCell ⟨k, 5, none⟩ f).setCell ⟨k, 6, none⟩ x) k #[a, b, c, d, e, f, x, a7, a8] := h5.set 6 x
  have h7 : Box ((((((((w.setCell ⟨k, 0, none⟩ a).setCell ⟨k, 1, none⟩ b).setCell ⟨k, 2, none⟩ c).setCell ⟨k, 3, none⟩ d).setCell ⟨k, 4, none⟩ e).setCell ⟨k, 5, none⟩ f).setCell ⟨k, 6, none⟩ x).setCell ⟨k, 7, none⟩ y) k #[a, b, c, d, e, f, x, y, a8] := h6.set 7 y
  have h8 : Box (((((((((w.setCell ⟨k, 0, none⟩ a).setCell ⟨k, 1, none⟩ b).setCell ⟨k, 2, none⟩ c).setCell ⟨k, 3, none⟩ d).setCell ⟨k, 4, none⟩ e).setCell ⟨k, 5, none⟩ f).setCell ⟨k, 6, none⟩ x).setCell ⟨k, 7, none⟩ y).setCell ⟨k, 8, none⟩ z) k #[a, b, c, d, e, f, x, y, z] := h7.set 8 z
  exact h8
theorem Up.set9 {w w' : World} {k : Nat} (h : Up w w') (hk : w.heap.size ≤ k) (a b c d e f x y z : Value) :
    Up w (((((((((w'.setCell ⟨k, 0, none⟩ a).setCell ⟨k, 1, none⟩ b).setCell ⟨k, 2, none⟩ c).setCell ⟨k, 3, none⟩ d).setCell ⟨k, 4, none⟩ e).setCell ⟨k, 5, none⟩ f).setCell ⟨k, 6, none⟩ x).setCell ⟨k, 7, none⟩ y).setCell ⟨k, 8, none⟩ z) :=
  ((((((((h.setCell hk a).setCell hk b).setCell hk c).setCell hk d).setCell hk e).setCell hk f).setCell hk x).setCell hk y).setCell hk z
end Go.Proofs.YtdddfapelencoaaDoor

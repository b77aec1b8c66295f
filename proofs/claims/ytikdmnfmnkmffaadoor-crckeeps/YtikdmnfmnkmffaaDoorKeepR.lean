/- For the law CrcKeeps: two rows of slices over rows of bytes; what a made row, a written byte, a copy leave. -/
import Derived.Test.YtikdmnfmnkmffaaDoorRowsV
import Derived.Test.YtikdmnfmnkmffaaDoorRefJ
import Derived.Test.YtikdmnfmnkmffaaDoorAll
set_option linter.unusedVariables false
namespace Go.Proofs.YtikdmnfmnkmffaaDoor
open Go Go.RowKit

/-- copy(d, s) where d is an own row of bytes, no shorter than s. -/
theorem copy_into (w : World) (base g m cap : Nat) (zs bs : List UInt8) (v : Value) (ho : Own w 5 base (.slice (some ⟨g, 0, none⟩) m cap) zs) (hm : m = zs.length) (hs : Sl 0 w v bs) (hn : bs.length ≤ m) :
    ∃ w', (Builtin.copy_ #[26, 26] 3 #[.slice (some ⟨g, 0, none⟩) m cap, v]).run Tryd.prog w = .ok (.int .i64 bs.length) w' ∧
      Own w' 5 base (.slice (some ⟨g, 0, none⟩) m cap) (bs ++ zs.drop bs.length) ∧ But g w w' := by
  obtain ⟨i0, hi, hz0, hz1, hz2⟩ := info_parts Tryd.infoU8
  have hsz : (Tryd.prog.info? 5).map (·.size) = some 1 := by rw [hi]; simp [hz1]
  obtain ⟨hl, ⟨hv, _⟩ | ⟨g', cap', cur, hv, hb, hg, hnc, hcm, hcs, ht⟩⟩ := ho
  · cases hv
  · cases hv
    obtain ⟨ao, c, rfl, hc, hnil, hx⟩ := hs
    by_cases hbs : bs = []
    · subst hbs
      refine ⟨w, ?_, ⟨by simp, .inr ⟨g, cap, cur, by simp, hb, hg, by simpa using hnc, hcm, hcs, by simpa using ht⟩⟩, But.refl _ _⟩
      cases ao with
      | none =>
        obtain rfl := hnil rfl
        exact run_copy_nil (P := Tryd.prog) _ _ _ _ _ _ _ _ Tryd.underlying26 (by rw [hsz]; rfl)
      | some a =>
        have h := run_copy_row (P := Tryd.prog) w 26 26 3 5 g 0 zs.length cap a 0 c cur 5 [] Tryd.underlying26 hsz hg (by simp) (by simp) (by simp) (by simp)
        rw [show cur.toList.take 0 ++ [] ++ cur.toList.drop (0 + ([] : List Value).length) = cur.toList by simp, Array.toArray_toList, setRow_self _ _ _ _ _ hg] at h
        exact h
    · obtain ⟨b, o, rfl, _, ha⟩ := hx hbs
      have h := run_copy_row (P := Tryd.prog) w 26 26 3 5 g 0 zs.length cap ⟨b, o, none⟩ bs.length c cur 5 (Bv bs) Tryd.underlying26 hsz hg (by simp only [List.length_map]; exact (Nat.min_eq_left hn).symm) ha.add (by simp; omega) (Bv_one bs)
      rw [show goInt (Bv bs).length = .int .i64 bs.length by simp [goInt]] at h
      have hlen : (bs ++ zs.drop bs.length).length = zs.length := by simp; omega
      refine ⟨_, h, ⟨by rw [hlen]; simp; omega, .inr ⟨g, cap, _, by rw [hlen], hb, setRow_heap _ _ _ _ _ _ hg, by rw [hlen]; exact hnc, hcm, ?_, ?_⟩⟩, ⟨rfl, rfl, rfl, by simp, fun k hk hne => setRow_other _ _ _ _ (fun e => hne (by rw [e]))⟩⟩
      · simp; omega
      · rw [hlen]
        simp only [List.take_zero, List.nil_append, Nat.zero_add, Nat.mul_one, List.length_map]
        rw [List.take_append, List.take_of_length_le (by simp; omega)]
        have ht' : cur.toList.take zs.length = Bv zs := by simpa using ht
        simp only [List.length_map]
        rw [← List.drop_take, ht']
        simp [Bv, List.map_drop]

def upd {α : Type} (f : Nat → α) (k : Nat) (x : α) : Nat → α := fun j => if j = k then x else f j
theorem upd_same {α : Type} (f : Nat → α) (k : Nat) (x : α) : upd f k x k = x := if_pos rfl
theorem upd_other {α : Type} (f : Nat → α) (k j : Nat) (x : α) (h : j ≠ k) : upd f k x j = f j := if_neg h

/-- The two rows: the first kF of full, the first kG of given; their bytes. -/
structure Kp (w0 w : World) (gF gG n : Nat) (gs N : Nat → Nat) (P : Nat → List UInt8) (kF kG : Nat) : Prop where
  lo : w0.heap.size ≤ gF
  lt : gF < gG
  f : ∃ c, c.size = n ∧ w.heap[gF]? = some (.cells c 26 (0, 0)) ∧ ∀ j, j < kF → c[j]? = some (.slice (some ⟨gs j, 0, none⟩) (N j + 8) (N j + 8))
  g : ∃ c, c.size = n ∧ w.heap[gG]? = some (.cells c 26 (0, 0)) ∧ ∀ j, j < kG → c[j]? = some (.slice (some ⟨gs j, 0, none⟩) (N j) (N j + 8))
  own : ∀ j, j < kF → Own w 5 w0.heap.size (.slice (some ⟨gs j, 0, none⟩) (N j + 8) (N j + 8)) (P j)
  hi : ∀ j, j < kF → gG < gs j
  dis : ∀ i j, i < kF → j < kF → gs i = gs j → i = j
  up : Up w0 w

theorem Kp.plen {w0 w : World} {gF gG n : Nat} {gs N : Nat → Nat} {P : Nat → List UInt8} {kF kG : Nat} (h : Kp w0 w gF gG n gs N P kF kG) (j : Nat) (hj : j < kF) : (P j).length = N j + 8 := by
  obtain ⟨_, ⟨hv, _⟩ | ⟨g', cap', cur, hv, _⟩⟩ := h.own j hj
  · cases hv
  · simp only [Value.slice.injEq] at hv; exact hv.2.1.symm
theorem heap_keep {w w' : World} {g : Nat} {o : Obj} (hg : w.heap[g]? = some o) (h : ∀ k, k < w.heap.size → k = g → w'.heap[k]? = w.heap[k]?) : w'.heap[g]? = some o := by
  rw [h g (Array.getElem?_eq_some_iff.1 hg).1 rfl]; exact hg
theorem Kp.grow {w0 w w' : World} {gF gG n : Nat} {gs N : Nat → Nat} {P : Nat → List UInt8} {kF kG : Nat} (h : Kp w0 w gF gG n gs N P kF kG) (hu : Up w w') : Kp w0 w' gF gG n gs N P kF kG := by
  obtain ⟨h1, h2, ⟨c, h3, h4, h5⟩, ⟨d, h6, h7, h8⟩, h9, h10, h11, h12⟩ := h
  exact ⟨h1, h2, ⟨c, h3, heap_keep h4 (fun k hk _ => hu.block k hk), h5⟩, ⟨d, h6, heap_keep h7 (fun k hk _ => hu.block k hk), h8⟩, fun j hj => ownsRow_up (h9 j hj) hu, h10, h11, h12.trans hu⟩
/-- Bytes of row j are turned. -/
theorem Kp.turn {w0 w w' : World} {gF gG n : Nat} {gs N : Nat → Nat} {P : Nat → List UInt8} {kF kG : Nat} (h : Kp w0 w gF gG n gs N P kF kG) (j : Nat) (hj : j < kF) (Q : List UInt8)
    (ho : Own w' 5 w0.heap.size (.slice (some ⟨gs j, 0, none⟩) (N j + 8) (N j + 8)) Q) (hb : But (gs j) w w') : Kp w0 w' gF gG n gs N (upd P j Q) kF kG := by
  have hhi := h.hi j hj
  have hlt := h.lt
  have hlo := h.lo
  obtain ⟨h1, h2, ⟨c, h3, h4, h5⟩, ⟨d, h6, h7, h8⟩, h9, h10, h11, h12⟩ := h
  have hk : ∀ g, g ≠ gs j → ∀ k, k < w.heap.size → k = g → w'.heap[k]? = w.heap[k]? := fun g hg k hk e => hb.block k hk (by intro e2; simp at e2; omega)
  refine ⟨h1, h2, ⟨c, h3, heap_keep h4 (hk _ (by omega)), h5⟩, ⟨d, h6, heap_keep h7 (hk _ (by omega)), h8⟩, fun i hi => ?_, h10, h11, Below.trans h12 (hb.below (by omega) h12.size)⟩
  by_cases e : i = j
  · subst e; rw [upd_same]; exact ho
  · rw [upd_other _ _ _ _ e]
    exact ownsRow_but (h9 i hi) hb (by intro e2; simp [Value.ownBlock] at e2; exact e (h11 i j hi hj e2))
theorem Kp.byte {w0 w : World} {gF gG n : Nat} {gs N : Nat → Nat} {P : Nat → List UInt8} {kF kG : Nat} (h : Kp w0 w gF gG n gs N P kF kG) (j : Nat) (hj : j < kF) (t : Nat) (ht : t < (P j).length) (c : UInt8) :
    Kp w0 (w.setCell ⟨gs j, t, none⟩ (B c)) gF gG n gs N (upd P j ((P j).set t c)) kF kG :=
  h.turn j hj _ ((h.own j hj).set t ht c) (But.setCell _ _ _ _)
/-- A slice is laid in the second row. -/
theorem Kp.give {w0 w : World} {gF gG n : Nat} {gs N : Nat → Nat} {P : Nat → List UInt8} {k : Nat} (h : Kp w0 w gF gG n gs N P (k + 1) k) (hk : k < n) :
    Kp w0 (w.setCell ⟨gG, k, none⟩ (.slice (some ⟨gs k, 0, none⟩) (N k) (N k + 8))) gF gG n gs N P (k + 1) (k + 1) := by
  have hlt := h.lt
  have hlo := h.lo
  have hb := But.setCell w gG k (.slice (some ⟨gs k, 0, none⟩) (N k) (N k + 8))
  obtain ⟨h1, h2, ⟨c, h3, h4, h5⟩, ⟨d, h6, h7, h8⟩, h9, h10, h11, h12⟩ := h
  refine ⟨h1, h2, ⟨c, h3, heap_keep h4 (fun i hi e => hb.block i hi (by intro e2; simp at e2; omega)), h5⟩, ⟨_, by simpa using h6, heap_setCell2 _ _ _ _ _ _ h7, fun j hj => ?_⟩, fun i hi => ?_, h10, h11, Below.trans h12 (hb.below (by omega) h12.size)⟩
  · rw [Array.getElem?_setIfInBounds]
    by_cases e : k = j
    · subst e; rw [if_pos rfl, if_pos (by omega)]
    · rw [if_neg e]; exact h8 j (by omega)
  · exact ownsRow_but (h9 i hi) hb (by intro e2; simp [Value.ownBlock] at e2; have := h10 i hi; omega)
/-- A row of bytes is made, and laid in the first row. -/
theorem Kp.make {w0 w : World} {gF gG n : Nat} {gs N : Nat → Nat} {P : Nat → List UInt8} {k : Nat} (h : Kp w0 w gF gG n gs N P k k) (hk : k < n) (m : Nat) (hm : N k = m) (hmm : m + 8 ≤ 140737488355327) :
    Kp w0 ((w.alloc (.cells (madeCells #[.int .u8 0] (m + 8)) 5)).setCell ⟨gF, k, none⟩ (.slice (some ⟨w.heap.size, 0, none⟩) (m + 8) (m + 8))) gF gG n (upd gs k w.heap.size) N (upd P k (List.replicate (m + 8) 0)) (k + 1) k := by
  have hu := Up.alloc w (.cells (madeCells #[.int .u8 0] (m + 8)) 5)
  have hb := But.setCell (w.alloc (.cells (madeCells #[.int .u8 0] (m + 8)) 5)) gF k (.slice (some ⟨w.heap.size, 0, none⟩) (m + 8) (m + 8))
  have hom := own_made (m + 8) hmm w
  have h' := h.grow hu
  have hlow : ∀ j, j < k → gs j < w.heap.size := fun j hj => (World.ownsRow.lt (h.own j hj) _ rfl).2
  obtain ⟨d0, _, hG0, _⟩ := h.g
  have hgG : gG < w.heap.size := (Array.getElem?_eq_some_iff.1 hG0).1
  have hws := h.up.size
  obtain ⟨h1, h2, ⟨c, h3, h4, h5⟩, ⟨d, h6, h7, h8⟩, h9, h10, h11, h12⟩ := h'
  refine ⟨h1, h2, ⟨_, by simpa using h3, heap_setCell2 _ _ _ _ _ _ h4, fun j hj => ?_⟩, ⟨d, h6, heap_keep h7 (fun i hi e => hb.block i hi (by intro e2; simp at e2; omega)), fun j hj => ?_⟩, fun i hi => ?_, fun j hj => ?_, fun i j hi hj e => ?_, Below.trans h12 (hb.below (by omega) h12.size)⟩
  · rw [Array.getElem?_setIfInBounds]
    by_cases e : k = j
    · subst e; rw [if_pos rfl, if_pos (by omega), upd_same, hm]
    · rw [if_neg e, upd_other _ _ _ _ (Ne.symm e)]; exact h5 j (by omega)
  · rw [upd_other _ _ _ _ (by omega)]; exact h8 j hj
  · by_cases e : i = k
    · subst e
      rw [upd_same, upd_same, hm]
      refine ownsRow_but ?_ hb (by intro e2; simp [Value.ownBlock] at e2; omega)
      obtain ⟨q1, ⟨hv, _⟩ | ⟨g', cap', cur, hv, q2, q3⟩⟩ := hom
      · cases hv
      · exact ⟨q1, .inr ⟨g', cap', cur, hv, by omega, q3⟩⟩
    · rw [upd_other _ _ _ _ e, upd_other _ _ _ _ e]
      exact ownsRow_but (h9 i (by omega)) hb (by intro e2; simp [Value.ownBlock] at e2; have := h10 i (by omega); omega)
  · by_cases e : j = k
    · subst e; rw [upd_same]; exact hgG
    · rw [upd_other _ _ _ _ e]; exact h10 j (by omega)
  · by_cases e1 : i = k
    · by_cases e2 : j = k
      · omega
      · subst e1
        rw [upd_same, upd_other _ _ _ _ e2] at e
        have := hlow j (by omega); omega
    · by_cases e2 : j = k
      · subst e2
        rw [upd_same, upd_other _ _ _ _ e1] at e
        have := hlow i (by omega); omega
      · rw [upd_other _ _ _ _ e1, upd_other _ _ _ _ e2] at e
        exact h11 i j (by omega) (by omega) e

/-! What is read. -/
theorem Kp.cellF {w0 w : World} {gF gG n : Nat} {gs N : Nat → Nat} {P : Nat → List UInt8} {kF kG : Nat} (h : Kp w0 w gF gG n gs N P kF kG) (j : Nat) (hj : j < kF) : w.cell? ⟨gF, j, none⟩ = some (.slice (some ⟨gs j, 0, none⟩) (N j + 8) (N j + 8)) := by
  obtain ⟨c, _, h4, h5⟩ := h.f
  rw [cell_of_row _ _ _ _ _ _ h4]; exact h5 j hj
theorem Kp.cellG {w0 w : World} {gF gG n : Nat} {gs N : Nat → Nat} {P : Nat → List UInt8} {kF kG : Nat} (h : Kp w0 w gF gG n gs N P kF kG) (j : Nat) (hj : j < kG) : w.cell? ⟨gG, j, none⟩ = some (.slice (some ⟨gs j, 0, none⟩) (N j) (N j + 8)) := by
  obtain ⟨c, _, h4, h5⟩ := h.g
  rw [cell_of_row _ _ _ _ _ _ h4]; exact h5 j hj
theorem Kp.someF {w0 w : World} {gF gG n : Nat} {gs N : Nat → Nat} {P : Nat → List UInt8} {kF kG : Nat} (h : Kp w0 w gF gG n gs N P kF kG) (j : Nat) (hj : j < n) : (∃ v, w.cell? ⟨gF, j, none⟩ = some v) ∧ w.frozen? ⟨gF, j, none⟩ = false := by
  obtain ⟨c, h3, h4, h5⟩ := h.f
  refine ⟨⟨c[j]'(by omega), ?_⟩, by simp [World.frozen?, h4]⟩
  rw [cell_of_row _ _ _ _ _ _ h4]; simp
theorem Kp.someG {w0 w : World} {gF gG n : Nat} {gs N : Nat → Nat} {P : Nat → List UInt8} {kF kG : Nat} (h : Kp w0 w gF gG n gs N P kF kG) (j : Nat) (hj : j < n) : (∃ v, w.cell? ⟨gG, j, none⟩ = some v) ∧ w.frozen? ⟨gG, j, none⟩ = false := by
  obtain ⟨c, h3, h4, h5⟩ := h.g
  refine ⟨⟨c[j]'(by omega), ?_⟩, by simp [World.frozen?, h4]⟩
  rw [cell_of_row _ _ _ _ _ _ h4]; simp
theorem Kp.at {w0 w : World} {gF gG n : Nat} {gs N : Nat → Nat} {P : Nat → List UInt8} {kF kG : Nat} (h : Kp w0 w gF gG n gs N P kF kG) (j : Nat) (hj : j < kF) : At w (gs j) 0 (P j) := by
  obtain ⟨ao, cap, e, _, _, hx⟩ := (h.own j hj).sl
  have hlen := h.plen j hj
  obtain ⟨b, o, e2, _, ha⟩ := hx (by intro e; rw [e] at hlen; simp at hlen)
  simp only [Value.slice.injEq] at e
  rw [← e.1] at e2
  simp only [Option.some.injEq, Addr.mk.injEq, and_true] at e2
  obtain ⟨rfl, rfl⟩ := e2
  exact ha
theorem Kp.cellB {w0 w : World} {gF gG n : Nat} {gs N : Nat → Nat} {P : Nat → List UInt8} {kF kG : Nat} (h : Kp w0 w gF gG n gs N P kF kG) (j : Nat) (hj : j < kF) (t : Nat) (ht : t < (P j).length) :
    w.cell? ⟨gs j, t, none⟩ = some (B (P j)[t]) ∧ w.frozen? ⟨gs j, t, none⟩ = false := by
  refine ⟨?_, (h.own j hj).not_frozen⟩
  have := h.at j hj t ht
  rwa [Nat.zero_add] at this
/-- given[j] reads as the first bytes of its row. -/
theorem Kp.slG {w0 w : World} {gF gG n : Nat} {gs N : Nat → Nat} {P : Nat → List UInt8} {kF kG : Nat} (h : Kp w0 w gF gG n gs N P kF kG) (j : Nat) (hj : j < kF) : Sl 0 w (.slice (some ⟨gs j, 0, none⟩) (N j) (N j + 8)) ((P j).take (N j)) := by
  have hlen := h.plen j hj
  have e : ((P j).take (N j)).length = N j := by simp; omega
  refine ⟨_, _, by rw [e], by rw [e]; omega, (by intro e; cases e), fun _ => ⟨gs j, 0, rfl, Nat.zero_le _, fun i hi => ?_⟩⟩
  rw [e] at hi
  have := h.at j hj i (by omega)
  simpa using this
/-- given reads as the rows' heads. -/
theorem Kp.rwG {w0 w : World} {gF gG n : Nat} {gs N : Nat → Nat} {P : Nat → List UInt8} (h : Kp w0 w gF gG n gs N P n n) (M : List (List UInt8)) (hM : M.length = n) (he : ∀ j (hj : j < M.length), M[j] = (P j).take (N j)) :
    Rw w (.slice (some ⟨gG, 0, none⟩) n n) M := by
  refine ⟨_, n, by rw [hM], by omega, fun _ => ⟨gG, 0, rfl, fun i hi => ⟨.slice (some ⟨gs i, 0, none⟩) (N i) (N i + 8), ?_, ?_⟩⟩⟩
  · rw [Nat.zero_add]; exact h.cellG i (by omega)
  · rw [he i hi]; exact h.slG i (by omega)

theorem make_sl (n : Nat) (hn : n ≤ 5864062014805) (u : World) : (Instr.makeSlice 28 (.int .i64 (n : Int)) (.int .i64 (n : Int))).run Tryd.prog u =
    .ok (.slice (some ⟨u.heap.size, 0, none⟩) n n) (u.alloc (.cells (madeCells #[.slice none 0 0] n) 26)) := by
  obtain ⟨i0, hi, hz0, hz1, hz2⟩ := info_parts Tryd.infoSl
  have h := run_make (P := Tryd.prog) u 28 26 i0 (.slice none 0 0) Tryd.underlying28 hi hz0 .i64 .i64 (n : Int) (n : Int) (by omega) (by omega) (by rw [hz2]; omega) (by omega)
  simpa [hz1, Value.cells] using h
theorem Kp.start (w0 : World) (n : Nat) (N : Nat → Nat) :
    Kp w0 ((w0.alloc (.cells (madeCells #[.slice none 0 0] n) 26)).alloc (.cells (madeCells #[.slice none 0 0] n) 26)) w0.heap.size (w0.heap.size + 1) n (fun _ => 0) N (fun _ => []) 0 0 := by
  have n1 : (w0.alloc (.cells (madeCells #[.slice none 0 0] n) 26)).heap.size = w0.heap.size + 1 := by simp
  refine ⟨Nat.le_refl _, by omega, ⟨madeCells #[.slice none 0 0] n, size_madeCells _ _, ?_, fun j hj => by omega⟩, ⟨madeCells #[.slice none 0 0] n, size_madeCells _ _, ?_, fun j hj => by omega⟩, fun j hj => by omega, fun j hj => by omega, fun i j hi => by omega, (Up.alloc _ _).trans (Up.alloc _ _)⟩
  · rw [heap_alloc_old _ _ (by omega)]; exact heap_alloc_new _ _
  · rw [← n1]; exact heap_alloc_new _ _
theorem slice_head (u : World) (g n cap h : Nat) (hn : h ≤ n) (hc : n ≤ cap) (h0 : 0 < cap) :
    (Instr.slice 26 (.slice (some ⟨g, 0, none⟩) n cap) none (some (.int .i64 (h : Int))) none).run Tryd.prog u = .ok (.slice (some ⟨g, 0, none⟩) h cap) u := by
  have hu : Tryd.prog.underlying 26 = some (.slice (Tryd.prog.elem 26)) := by rw [elem_bytes]; exact Tryd.underlying26
  rw [run_slice_h u 26 _ _ cap hu .i64 _ (by omega) (by omega), elem_bytes, size_u8]
  have : ¬ cap = 0 := by omega
  simp [Result.andThen, sliced, this, Addr.add_lit]

/-! The bytes of a row while its end is filled, and while its head is turned. -/
def pad : List UInt8 := List.replicate 8 0xa7
def fillP (bs : List UInt8) (t : Nat) : List UInt8 := bs ++ (List.replicate t 0xa7 ++ List.replicate (8 - t) 0)
theorem fillP_length (bs : List UInt8) (t : Nat) (ht : t ≤ 8) : (fillP bs t).length = bs.length + 8 := by simp [fillP]; omega
theorem fillP_next (bs : List UInt8) (t : Nat) (ht : t < 8) : (fillP bs t).set (bs.length + t) 0xa7 = fillP bs (t + 1) := by
  unfold fillP
  rw [List.set_append_right _ _ (by omega), show bs.length + t - bs.length = t by omega, List.set_append_right _ _ (by simp)]
  simp only [List.length_replicate, Nat.sub_self]
  rw [show 8 - t = (7 - t) + 1 by omega, List.replicate_succ, List.set_cons_zero, List.replicate_succ', List.append_assoc, show 8 - (t + 1) = 7 - t by omega]
  rfl
theorem fillP_done (bs : List UInt8) : fillP bs 8 = bs ++ pad := by simp [fillP, pad]
def x5 (c : UInt8) : UInt8 := c ^^^ 0x5c
def turnP (bs : List UInt8) (t : Nat) : List UInt8 := (bs.take t).map x5 ++ (bs.drop t ++ pad)
theorem turnP_length (bs : List UInt8) (t : Nat) (ht : t ≤ bs.length) : (turnP bs t).length = bs.length + 8 := by simp [turnP, pad]; omega
theorem turnP_zero (bs : List UInt8) : turnP bs 0 = bs ++ pad := by simp [turnP]
theorem turnP_get (bs : List UInt8) (t : Nat) (ht : t < bs.length) : (turnP bs t)[t]? = some bs[t] := by
  unfold turnP
  rw [List.getElem?_append_right (by simp; omega)]
  simp only [List.length_map, List.length_take, Nat.min_eq_left (Nat.le_of_lt ht), Nat.sub_self]
  rw [List.drop_eq_getElem_cons ht]; rfl
theorem turnP_next (bs : List UInt8) (t : Nat) (ht : t < bs.length) : (turnP bs t).set t (x5 bs[t]) = turnP bs (t + 1) := by
  unfold turnP
  rw [List.set_append_right _ _ (by simp; omega)]
  simp only [List.length_map, List.length_take, Nat.min_eq_left (Nat.le_of_lt ht), Nat.sub_self]
  rw [List.drop_eq_getElem_cons ht, List.cons_append, List.set_cons_zero, List.take_succ_eq_append_getElem ht, List.map_append]
  simp
theorem turnP_done (bs : List UInt8) : (turnP bs bs.length).take bs.length = bs.map x5 := by
  simp [turnP]
theorem x5_u8 (c : UInt8) : bits .xor .u8 (c.toNat : Int) 92 = ((x5 c).toNat : Int) := by
  have := u8_xor_nat c.toNat 92 c.toNat_lt (by omega)
  rw [show ((92 : Nat) : Int) = 92 from rfl] at this
  rw [this]
  unfold x5
  rw [UInt8.toNat_xor]; rfl

/-- Piece k, in every later world. -/
theorem rw_piece {w : World} {ao : Option Addr} {cap : Nat} {L : List (List UInt8)} (h : Rw w (.slice ao L.length cap) L) (k : Nat) (hk : k < L.length) :
    ∃ b o ai ci, ao = some ⟨b, o, none⟩ ∧ ∀ u, Up w u → u.cell? ⟨b, o + k, none⟩ = some (.slice ai (L[k]).length ci) ∧ Sl 0 u (.slice ai (L[k]).length ci) L[k] := by
  obtain ⟨ao2, cap2, e1, _, hx⟩ := h
  obtain ⟨b, o, e2, hat⟩ := hx (by rintro rfl; simp at hk)
  simp only [Value.slice.injEq] at e1
  obtain ⟨rfl, _, rfl⟩ := e1
  obtain ⟨vi, hc, hs⟩ := hat k hk
  have hs2 := hs
  obtain ⟨ai, ci, rfl, _⟩ := hs
  exact ⟨b, o, ai, ci, e2, fun u hu => ⟨by rw [hu.cell (World.block_lt_of_cell? w _ hc)]; exact hc, hs2.up hu⟩⟩
end Go.Proofs.YtikdmnfmnkmffaaDoor

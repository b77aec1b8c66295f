/- crc: copy into a row that was just made; one byte of a row written. -/
import Derived.Test.YtikdmnfmnkmffaaDoorMadeC
import Derived.Laws.CopyOwn
import Derived.Deep.QuietTactic
import Derived.BigQuiet
set_option linter.unusedVariables false
namespace Go.Proofs.YtikdmnfmnkmffaaDoor
open Go Go.RowKit

/-- Behind w' all blocks of w but r are as they were. -/
abbrev But (r : Nat) (w w' : World) : Prop := w.grownBy w' (some r)

theorem But.refl (r : Nat) (w : World) : But r w w := World.grownBy.refl w _
theorem But.of_up {w w' : World} (r : Nat) (h : Up w w') : But r w w' := ⟨h.os, h.tape, h.output, h.size, fun k hk _ => h.block k hk⟩
theorem But.trans {r : Nat} {a b c : World} (h : But r a b) (k : But r b c) : But r a c :=
  ⟨k.os.trans h.os, k.tape.trans h.tape, k.output.trans h.output, Nat.le_trans h.size k.size, fun i hi hne => (k.block i (Nat.lt_of_lt_of_le hi h.size) hne).trans (h.block i hi hne)⟩
theorem But.below {r B : Nat} {a b : World} (h : But r a b) (hr : B ≤ r) (hB : B ≤ a.heap.size) : Below B a b :=
  ⟨h.os, h.tape, h.output, h.size, fun k hk => h.block k (by omega) (by intro e; cases e; omega)⟩

theorem But.setCell (w : World) (r i : Nat) (u : Value) : But r w (w.setCell ⟨r, i, none⟩ u) :=
  ⟨rfl, rfl, rfl, by simp [World.setCell], fun k _ hne => Below.heap_setCell _ _ _ _ (by intro e; exact hne (by rw [e]))⟩

theorem heap_setCell2 (w : World) (r t i : Nat) (cs : Array Value) (u : Value) (h : w.heap[r]? = some (.cells cs t (0, 0))) :
    (w.setCell ⟨r, i, none⟩ u).heap[r]? = some (.cells (cs.setIfInBounds i u) t (0, 0)) := by
  rw [setCell_eq_setRow w r i cs t (0, 0) u h]
  exact setRow_heap w r cs _ t _ h


/-- A copy into the head of a row that was just made. -/
theorem copy_head (v : Value) (bs : List UInt8) (cap : Nat) (w : World) (hs : Sl 0 w v bs) (hcap : bs.length ≤ cap) (hm : cap ≤ maxLen) :
    ∃ w1, (Builtin.copy_ #[26, 26] 3 #[.slice (some ⟨w.heap.size, 0, none⟩) bs.length cap, v]).run Tryd.prog (w.alloc (.cells (madeCells #[.int .u8 0] cap) 5)) = .ok (.int .i64 bs.length) w1 ∧
      Own w1 5 w.heap.size (.slice (some ⟨w.heap.size, 0, none⟩) bs.length cap) bs ∧ Up w w1 := by
  obtain ⟨i0, hi, hz0, hz1, hz2⟩ := info_parts Tryd.infoU8
  have hsz : (Tryd.prog.info? 5).map (·.size) = some 1 := by rw [hi]; simp [hz1]
  obtain ⟨ao, c, rfl, hc, hn, hx⟩ := hs
  have hnew := heap_alloc_new w (.cells (madeCells #[.int .u8 0] cap) 5)
  have hup := Up.alloc w (.cells (madeCells #[.int .u8 0] cap) 5)
  by_cases hb : bs = []
  · subst hb
    refine ⟨w.alloc (.cells (madeCells #[.int .u8 0] cap) 5), ?_, ⟨by simp, .inr ⟨w.heap.size, cap, _, rfl, Nat.le_refl _, hnew, by simp, hm, by simp [size_madeCells], by simp⟩⟩, hup⟩
    cases ao with
    | none =>
      obtain rfl := hn rfl
      exact run_copy_nil (P := Tryd.prog) _ _ _ _ _ _ _ _ Tryd.underlying26 (by rw [hsz]; rfl)
    | some a =>
      have h := run_copy_row (P := Tryd.prog) (w.alloc (.cells (madeCells #[.int .u8 0] cap) 5)) 26 26 3 5 w.heap.size 0 0 cap a 0 c (madeCells #[.int .u8 0] cap) 5 [] Tryd.underlying26 hsz hnew (by simp) (by simp) (by simp) (by simp)
      rw [show (madeCells #[Value.int .u8 0] cap).toList.take 0 ++ [] ++ (madeCells #[Value.int .u8 0] cap).toList.drop (0 + ([] : List Value).length) = (madeCells #[Value.int .u8 0] cap).toList by simp, Array.toArray_toList, setRow_self _ _ _ _ _ hnew] at h
      exact h
  · obtain ⟨b, o, rfl, _, ha⟩ := hx hb
    have ha1 := ha.up hup
    have h := run_copy_row (P := Tryd.prog) (w.alloc (.cells (madeCells #[.int .u8 0] cap) 5)) 26 26 3 5 w.heap.size 0 bs.length cap ⟨b, o, none⟩ bs.length c (madeCells #[.int .u8 0] cap) 5 (Bv bs) Tryd.underlying26 hsz hnew (by simp) ha1.add (by simp [size_madeCells]; omega) (Bv_one bs)
    rw [show goInt (Bv bs).length = .int .i64 bs.length by simp [goInt]] at h
    refine ⟨_, h, ⟨by simp, .inr ⟨w.heap.size, cap, _, rfl, Nat.le_refl _, setRow_heap _ _ _ _ _ _ hnew, hcap, hm, ?_, ?_⟩⟩, ?_⟩
    · simp [size_madeCells]; omega
    · simp
    · exact ⟨rfl, rfl, rfl, by simp, fun k hk => (setRow_other _ _ _ _ (by omega)).trans (heap_alloc_old _ _ hk)⟩

/-- One byte of an own row is written. -/
theorem Own.set {w : World} {base g n cap : Nat} {bs : List UInt8} (h : Own w 5 base (.slice (some ⟨g, 0, none⟩) n cap) bs) (k : Nat) (hk : k < bs.length) (c : UInt8) :
    Own (w.setCell ⟨g, k, none⟩ (B c)) 5 base (.slice (some ⟨g, 0, none⟩) n cap) (bs.set k c) := by
  obtain ⟨hl, ⟨hv, hn⟩ | ⟨g', cap', cur, hv, hb, hg, hnc, hcm, hcs, ht⟩⟩ := h
  · cases hv
  · cases hv
    refine ⟨by simp, .inr ⟨g, cap, cur.setIfInBounds k (B c), by simp, hb, ?_, by simpa using hnc, hcm, by simpa using hcs, ?_⟩⟩
    · exact heap_setCell2 w g _ k cur _ hg
    · rw [Array.toList_setIfInBounds, List.length_set, List.take_set, ht]
      exact (List.map_set ..).symm
theorem Own.not_frozen {w : World} {base g n cap t : Nat} {bs : List UInt8} (h : Own w 5 base (.slice (some ⟨g, 0, none⟩) n cap) bs) : w.frozen? ⟨g, t, none⟩ = false := by
  obtain ⟨hl, ⟨hv, _⟩ | ⟨g', cap', cur, hv, hb, hg, _⟩⟩ := h
  · cases hv
  · cases hv
    simp [World.frozen?, hg]
/-- A row whose block a change leaves alone stays. -/
theorem ownsRow_kept {w w' : World} {base n size : Nat} {e : TypeId} {v : Value} {xs : List Value} (h : w.ownsRow base e size v n xs) (hk : ∀ g, v.ownBlock = some g → w'.heap[g]? = w.heap[g]?) : w'.ownsRow base e size v n xs := by
  obtain ⟨hl, ⟨rfl, hn⟩ | ⟨g, cap, cur, rfl, hb, hg, hnc, hcm, hcs, ht⟩⟩ := h
  · exact ⟨hl, .inl ⟨rfl, hn⟩⟩
  · exact ⟨hl, .inr ⟨g, cap, cur, rfl, hb, by rw [hk g rfl]; exact hg, hnc, hcm, hcs, ht⟩⟩
theorem ownsRow_up {w w' : World} {base n size : Nat} {e : TypeId} {v : Value} {xs : List Value} (h : w.ownsRow base e size v n xs) (hu : Up w w') : w'.ownsRow base e size v n xs :=
  ownsRow_kept h fun g hg => hu.block g (World.ownsRow.lt h g hg).2
theorem ownsRow_but {w w' : World} {r base n size : Nat} {e : TypeId} {v : Value} {xs : List Value} (h : w.ownsRow base e size v n xs) (hu : But r w w') (hne : v.ownBlock ≠ some r) : w'.ownsRow base e size v n xs :=
  ownsRow_kept h fun g hg => hu.block g (World.ownsRow.lt h g hg).2 (by intro e; apply hne; rw [hg, e])

theorem Up.drewN (w : World) (n : Nat) : Up w (w.drewN n) := below_drewN (Up.refl w) n
end Go.Proofs.YtikdmnfmnkmffaaDoor

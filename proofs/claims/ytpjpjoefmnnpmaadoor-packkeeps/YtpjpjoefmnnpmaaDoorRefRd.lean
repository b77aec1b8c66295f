/- The reference's reader of layer 1: what its calls answer and leave. A fault is its number: 0 none, 2 short, 3 another form. -/
import Derived.Test.YtpjpjoefmnnpmaaDoorText
import Derived.Test.YtpjpjoefmnnpmaaDoorRefPut
set_option linter.unusedVariables false
namespace Go.Proofs.YtpjpjoefmnnpmaaDoor
open Go Go.RowKit

/-- The reference's reader in memory. -/
def RRd (base : Nat) (w : World) (r : Nat) (bs : List UInt8) (c : Nat) : Prop :=
  ∃ v, w.heap[r]? = some (.cells #[v, .int .i64 (c : Int)] 72 (0, 0)) ∧ Sl base w v bs

theorem RRd.lt {base : Nat} {w : World} {r : Nat} {bs : List UInt8} {c : Nat} (h : RRd base w r bs c) : r < w.heap.size := by
  obtain ⟨v, h, _⟩ := h
  exact (Array.getElem?_eq_some_iff.1 h).1
theorem RRd.up {base : Nat} {w w' : World} {r : Nat} {bs : List UInt8} {c : Nat} (h : RRd base w r bs c) (hu : Up w w') : RRd base w' r bs c := by
  have hl := h.lt
  obtain ⟨v, h, hs⟩ := h
  exact ⟨v, by rw [hu.block r hl]; exact h, hs.up hu⟩

/-- The bytes of a slice lie in a block of bytes alone where its block is known: another block's turn does not touch them. -/
theorem sl_other {base : Nat} {w w' : World} {r t : Nat} {cs : Array Value} {v : Value} {bs : List UInt8} (hs : Sl base w v bs) (h : w.heap[r]? = some (.cells cs t (0, 0))) (hne : ∀ (o : Nat) (q : Int), cs[o]? = some (Value.int .u8 q) → False) (hu : But r w w') : Sl base w' v bs := by
  obtain ⟨ao, cap, rfl, hc, hn, hxx⟩ := hs
  refine ⟨ao, cap, rfl, hc, hn, fun hb => ?_⟩
  obtain ⟨b, o, rfl, hbb, ha⟩ := hxx hb
  refine ⟨b, o, rfl, hbb, ha.but hu ?_⟩
  rintro rfl
  have hl : 0 < bs.length := List.length_pos_iff.2 hb
  have := ha 0 hl
  rw [cell_of_row w b _ _ t _ h] at this
  exact hne _ _ this

theorem rrd_ne {v : Value} {c : Nat} (hv : ∀ k n, v ≠ .int k n) : ∀ (o : Nat) (q : Int), (#[v, Value.int .i64 (c : Int)] : Array Value)[o]? = some (Value.int .u8 q) → False := by
  intro o q h
  match o, h with
  | 0, h => simp at h; exact hv _ _ h
  | 1, h => simp at h
  | n + 2, h => simp at h

theorem rrd_cells {base : Nat} {w : World} {r : Nat} {bs : List UInt8} {c : Nat} (h : RRd base w r bs c) :
    ∃ v, Sl base w v bs ∧ w.heap[r]? = some (.cells #[v, .int .i64 (c : Int)] 72 (0, 0)) ∧ w.cell? ⟨r, 0, none⟩ = some v ∧ w.cell? ⟨r, 1, none⟩ = some (.int .i64 (c : Int)) ∧ w.frozen? ⟨r, 0, none⟩ = false ∧ w.frozen? ⟨r, 1, none⟩ = false := by
  obtain ⟨v, h, hs⟩ := h
  refine ⟨v, hs, h, ?_, ?_, ?_, ?_⟩
  · rw [cell_of_row w r 0 _ _ _ h]; rfl
  · rw [cell_of_row w r 1 _ _ _ h]; rfl
  · simp [World.frozen?, h]
  · simp [World.frozen?, h]

theorem rrd_set_fault {base : Nat} {w : World} {r : Nat} {bs : List UInt8} {c : Nat} (h : RRd base w r bs c) (d : Nat) : RRd base (w.setCell ⟨r, 1, none⟩ (.int .i64 (d : Int))) r bs d := by
  obtain ⟨v, h, hs⟩ := h
  refine ⟨v, ?_, sl_other hs h (rrd_ne hs.ne_int) (But.setCell w r 1 _)⟩
  rw [heap_setCell2 w r _ 1 _ _ h]; rfl
theorem rrd_set_left {base : Nat} {w : World} {r : Nat} {bs cs : List UInt8} {c : Nat} {v' : Value} (h : RRd base w r bs c) (hs' : Sl base w v' cs) : RRd base (w.setCell ⟨r, 0, none⟩ v') r cs c := by
  obtain ⟨v, h, hs⟩ := h
  refine ⟨v', ?_, sl_other hs' h (rrd_ne hs.ne_int) (But.setCell w r 0 v')⟩
  rw [heap_setCell2 w r _ 0 _ v' h]; rfl

theorem fail_any (base : Nat) (r : Nat) (bs : List UInt8) (c d : Nat) (w : World) (h : RRd base w r bs c) :
    Calls Tryd.prog 62 #[.pointer (some ⟨r, 0, none⟩), .int .i64 (d : Int)] w fun e w' => e = .returned (.tuple #[]) ∧ RRd base w' r bs d ∧ But r w w' := by
  obtain ⟨v, hs, hh, h0, h1, f0, f1⟩ := rrd_cells h
  have hr := rrd_set_fault h d
  clear h
  go_enter Tryd.func62, Tryd.ntmps62
  go_wp2
  go_end0
  exact ⟨rfl, hr, But.setCell _ _ _ _⟩

theorem rNewReader_any (base : Nat) (v : Value) (bs : List UInt8) (w : World) (hs : Sl base w v bs) (hl : bs.length ≤ 140737488351232) :
    Calls Tryd.prog 13 #[v] w fun e w' => ∃ r, e = .returned (.pointer (some ⟨r, 0, none⟩)) ∧ w.heap.size ≤ r ∧ RRd w.heap.size w' r bs 0 ∧ Up w w' := by
  go_enter Tryd.func13, Tryd.ntmps13
  go_wp2_with fail
  refine (copied_any base v bs _ hs hl).mono ?_
  rintro e w1 ⟨v1, rfl, ho1, hu⟩
  have hs1 := ho1.sl
  have hs2 := hs1
  obtain ⟨ao, cap, rfl, _⟩ := hs1
  go_wp2
  go_ret
  exact ⟨_, rfl, hu.size, ⟨_, heap_alloc_new _ _, hs2.up (Up.alloc _ _)⟩, hu.trans (Up.alloc _ _)⟩

theorem rLeft_any (base : Nat) (r : Nat) (bs : List UInt8) (c : Nat) (w : World) (h : RRd base w r bs c) :
    Calls Tryd.prog 36 #[.pointer (some ⟨r, 0, none⟩)] w fun e w' => e = .returned (.int .i64 bs.length) ∧ w' = w := by
  obtain ⟨v, hs, hh, h0, h1, f0, f1⟩ := rrd_cells h
  obtain ⟨ao, cap, rfl, _⟩ := hs
  clear h
  go_enter Tryd.func36, Tryd.ntmps36
  go_wp2
  go_ret
  exact ⟨rfl, rfl⟩
theorem rErr_any (base : Nat) (r : Nat) (bs : List UInt8) (c : Nat) (w : World) (h : RRd base w r bs c) :
    Calls Tryd.prog 37 #[.pointer (some ⟨r, 0, none⟩)] w fun e w' => e = .returned (.int .i64 (c : Int)) ∧ w' = w := by
  obtain ⟨v, hs, hh, h0, h1, f0, f1⟩ := rrd_cells h
  clear h
  go_enter Tryd.func37, Tryd.ntmps37
  go_wp2
  go_ret
  exact ⟨rfl, rfl⟩

def endC (bs : List UInt8) (c : Nat) : Nat := if c = 0 ∧ 0 < bs.length then 3 else c
theorem rEnd_any (base : Nat) (r : Nat) (bs : List UInt8) (c : Nat) (w : World) (h : RRd base w r bs c) :
    Calls Tryd.prog 38 #[.pointer (some ⟨r, 0, none⟩)] w fun e w' => e = .returned (.int .i64 (endC bs c : Int)) ∧ w' = w := by
  obtain ⟨v, hs, hh, h0, h1, f0, f1⟩ := rrd_cells h
  obtain ⟨ao, cap, rfl, _⟩ := hs
  clear h
  by_cases hc : c = 0
  · subst hc
    by_cases hl : 0 < bs.length
    · rw [show endC bs 0 = 3 by simp [endC, hl]]
      go_enter Tryd.func38, Tryd.ntmps38
      go_wp2
      go_ret
      exact ⟨rfl, rfl⟩
    · rw [show endC bs 0 = 0 by unfold endC; rw [if_neg (by omega)]]
      have hl2 : bs.length = 0 := by omega
      rw [hl2] at h0
      clear hl
      go_enter Tryd.func38, Tryd.ntmps38
      go_wp2
      go_ret
      exact ⟨rfl, rfl⟩
  · rw [show endC bs c = c by simp [endC, hc]]
    have hg : ((c : Int) == 0) = false := by simp; omega
    clear hc
    go_enter Tryd.func38, Tryd.ntmps38
    go_wp2
    go_ret
    exact ⟨rfl, rfl⟩
end Go.Proofs.YtpjpjoefmnnpmaaDoor

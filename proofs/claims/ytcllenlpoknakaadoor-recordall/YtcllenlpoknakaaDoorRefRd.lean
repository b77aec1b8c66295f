/- The reference's reader of layer 1: what its calls answer and leave. A fault is its number: 0 none, 2 short, 3 another form. -/
import Derived.Test.YtcllenlpoknakaaDoorText
import Derived.Test.YtcllenlpoknakaaDoorRefPut
set_option linter.unusedVariables false
namespace Go.Proofs.YtcllenlpoknakaaDoor
open Go Go.RowKit



/-- The bytes of a slice lie in a block of bytes alone where its block is known: another block's turn does not touch them. -/
theorem sl_other {base : Nat} {w w' : World} {r t : Nat} {cs : Array Value} {v : Value} {bs : List UInt8} (hs : Sl base w v bs) (h : w.heap[r]? = some (.cells cs t (0, 0))) (hne : ∀ (o : Nat) (q : Int), cs[o]? = some (Value.int .u8 q) → False) (hu : But r w w') : Sl base w' v bs := by
  obtain ⟨ao, cap, rfl, hc, hn, hxx⟩ := hs
  refine ⟨ao, cap, rfl, hc, hn, fun hb => ?_⟩
  obtain ⟨b, o, rfl, hbb, ha⟩ := hxx hb
  refine ⟨b, o, rfl, hbb, ha.but hu ?_⟩
  rintro rfl
  have hl : 0 < bs.length := List.length_pos_iff.2 hb
  have := ha 0 hl
  rw [cell_of_row w b _ _ t _ h] at this
  exact hne _ _ this

theorem rrd_ne {v : Value} {c : Nat} (hv : ∀ k n, v ≠ .int k n) : ∀ (o : Nat) (q : Int), (#[v, Value.int .i64 (c : Int)] : Array Value)[o]? = some (Value.int .u8 q) → False := by
  intro o q h
  match o, h with
  | 0, h => simp at h; exact hv _ _ h
  | 1, h => simp at h
  | n + 2, h => simp at h






def endC (bs : List UInt8) (c : Nat) : Nat := if c = 0 ∧ 0 < bs.length then 3 else c
end Go.Proofs.YtcllenlpoknakaaDoor

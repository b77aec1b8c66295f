/- pack's PutText and the reference's: what they answer. -/
import Derived.Test.YtooclofdljampaaDoorMiA
import Derived.Test.YtooclofdljampaaDoorMiB
import Derived.Lib.AppendStr
import Derived.Deep.QuietTactic
import Derived.BigQuiet
set_option linter.unusedVariables false
namespace Go.Proofs.YtooclofdljampaaDoor
open Go Go.RowKit

/-- The bytes of a string. -/
abbrev Sb (s : ByteArray) : List UInt8 := s.data.toList

theorem Sb_len (s : ByteArray) : (Sb s).length = s.size := by rw [Array.length_toList]; rfl

theorem strCells_eq (s : ByteArray) : Lib.strCells s = Bv (Sb s) := by
  simp [Lib.strCells]

/-- append(b, s...) of a string, onto an own row. -/
theorem wpList_append_str {ops : Array Oper} {rest : List Oper} {o : Oper} {a : Act} {Q : Exit → Act → World → Prop} (w : World) (hgd : o.guard = none) (sl x : Operand)
    (ho : o.op = .call { callee := .builtin .append, args := #[sl, x], argTypes := #[30, 9] }) (base : Nat) (v : Value) (bs : List UInt8) (s : ByteArray) (hs : a.eval sl = v) (hx : a.eval x = .string s)
    (how : Own w 5 base v bs) (hbase : base ≤ w.heap.size) (hl : bs.length + s.size ≤ 140737488355000)
    (hK : ∀ v' w', Own w' 5 base v' (bs ++ Sb s) → Below base w w' → wpList Tryd.prog ops Q rest (a.put o.dst v') w') : wpList Tryd.prog ops Q (o :: rest) a w := by
  obtain ⟨i0, hi, hz0, hz1, hz2⟩ := info_parts Tryd.infoU8
  refine Lib.wpList_append_own_string w hgd sl x 30 9 ho base 5 i0 Tryd.underlying30 Tryd.underlying9 hi hz0 hz1 hz2 v bs.length (Bv bs) hs how s hx ?_ ?_ hbase ?_
  · unfold maxLen; omega
  · omega
  · intro v' w' h1 h2 _
    rw [strCells_eq] at h1
    refine hK v' w' (by simpa [Own, Sb_len] using h1) ((Below.refl base w).grown h2 hbase ?_)
    intro k hk
    exact (World.ownsRow.lt how k hk).1

set_option maxHeartbeats 800000 in
theorem PutText_ok (v : Value) (bs : List UInt8) (s : ByteArray) (w : World) (hs : Sl 0 w v bs) (hl : bs.length ≤ 140737400000000) (hn : (s.size : Int) ≤ 65535) :
    Calls Tryd.prog 42 #[v, .string s] w fun e w' => ∃ v', e = .returned (.tuple #[v', .nilIface]) ∧ Own w' 5 w.heap.size v' (bs ++ le 2 s.size ++ Sb s) ∧ Up w w' := by
  go_enter Tryd.func42, Tryd.ntmps42
  go_wp2_with fail
  rw [show (2 : Int) + (s.size : Int) = ((2 + s.size : Nat) : Int) from by omega]
  refine (copyWithRoom_any v bs (2 + s.size) _ hs (by omega) (by omega)).mono ?_
  rintro e w1 ⟨v1, rfl, ho1, hu1⟩
  go_wp2_with fail
  refine (appendWhole_any w.heap.size v1 bs s.size 2 _ ho1 hu1.size (by omega) (by omega) (by omega)).mono ?_
  rintro e w2 ⟨v2, rfl, ho2, hb2⟩
  have hlen : (bs ++ le 2 s.size).length = bs.length + 2 := by simp [le_length]
  go_wp2_with (at_builtin; refine wpList_append_str _ rfl (.tmp 21) (.tmp 22) rfl w.heap.size _ _ s rfl rfl ho2 ?hb ?hl ?_)
  case hb => have := hu1.size; have := hb2.size; omega
  case hl => omega
  intro v' w' ho' hb'
  go_wp2
  go_ret2
  exact ⟨_, rfl, by simpa using ho', (Below.trans hu1 hb2).trans hb'⟩

set_option maxHeartbeats 400000 in
theorem PutText_long (v : Value) (s : ByteArray) (a : Addr) (w : World) (hg : Gl w 4 a) (hn : (65535 : Int) < (s.size : Int)) :
    Calls Tryd.prog 42 #[v, .string s] w fun e w' => e = .returned (.tuple #[.slice none 0 0, E a]) ∧ Up w w' := by
  have hc := hg.cell
  go_enter Tryd.func42, Tryd.ntmps42
  go_wp2_with fail
  go_quiet (fail)
  go_wp2
  go_ret2
  exact ⟨rfl, below_drewN (Up.refl w) _⟩


end Go.Proofs.YtooclofdljampaaDoor

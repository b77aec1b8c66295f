/- What called, wanted and puts of layer 1's laws answer. -/
import Derived.Test.YtpjpjoefmnnpmaaDoorPutText
import Derived.Test.YtpjpjoefmnnpmaaDoorSame
set_option linter.unusedVariables false
namespace Go.Proofs.YtpjpjoefmnnpmaaDoor
open Go Go.RowKit

theorem Own.mono {w : World} {e : TypeId} {base base' : Nat} {v : Value} {bs : List UInt8} (h : Own w e base v bs) (hb : base' ≤ base) : Own w e base' v bs := by
  obtain ⟨h1, h2⟩ := h
  refine ⟨h1, ?_⟩
  rcases h2 with h2 | ⟨g, cap, cur, a, b, c⟩
  · exact .inl h2
  · exact .inr ⟨g, cap, cur, a, Nat.le_trans hb b, c⟩

/-- The bytes that a call of the kind k puts. -/
def enc (k : Int) (x : Nat) (s : ByteArray) : List UInt8 :=
  if k = 1 then le 2 x else if k = 2 then le 4 x else if k = 3 then le 8 x else if k = 4 then le 2 s.size ++ Sb s else vn x

theorem le_mod16 (x : Nat) : le 2 (x % 65536) = le 2 x := le_mod 2 x
theorem le_mod32 (x : Nat) : le 4 (x % 4294967296) = le 4 x := le_mod 4 x

abbrev PutV (k : Int) (vB : Value) (x : Nat) (s : ByteArray) : Value := .agg #[.int .i64 k, vB, .int .u64 (x : Int), .string s]

set_option maxHeartbeats 800000 in
theorem called_1 (k : Int) (hk : k = 1) (vB vb : Value) (bs : List UInt8) (x : Nat) (s : ByteArray) (w : World) (hs : Sl 0 w vb bs) (hl : bs.length ≤ 140737400000000) (hx : Hid (x < 2 ^ 64)) :
    Calls Tryd.prog 29 #[PutV k vB x s, vb] w fun e w' => ∃ v', e = .returned (.tuple #[v', .nilIface]) ∧ Own w' 5 w.heap.size v' (bs ++ enc k x s) ∧ Up w w' := by
  have hl2 : bs.length ≤ 140737488351232 := by omega
  subst hk
  have He : Hid (enc 1 x s = le 2 x) := rfl
  go_enter Tryd.func29, Tryd.ntmps29
  go_wp2_with fail
  rw [show IntKind.u16.wrap (x : Int) = ((x % 65536 : Nat) : Int) from by rw [IntKind.wrap_u16]; omega]
  refine (PutU16_any vb bs (x % 65536) _ (hs.up (Up.alloc w _)) hl2 (by omega)).mono ?_
  rintro e w1 ⟨v1, rfl, ho, hu⟩
  have hU := (Up.alloc w _).trans hu
  have ho2 := ho.mono (base' := w.heap.size) (by simp)
  clear hs hu ho
  go_wp2
  go_ret2
  refine ⟨_, rfl, ?_, hU⟩
  rw [He.out]
  rw [← le_mod16]; exact ho2

set_option maxHeartbeats 800000 in
theorem called_2 (k : Int) (hk : k = 2) (vB vb : Value) (bs : List UInt8) (x : Nat) (s : ByteArray) (w : World) (hs : Sl 0 w vb bs) (hl : bs.length ≤ 140737400000000) (hx : Hid (x < 2 ^ 64)) :
    Calls Tryd.prog 29 #[PutV k vB x s, vb] w fun e w' => ∃ v', e = .returned (.tuple #[v', .nilIface]) ∧ Own w' 5 w.heap.size v' (bs ++ enc k x s) ∧ Up w w' := by
  have hl2 : bs.length ≤ 140737488351232 := by omega
  subst hk
  have He : Hid (enc 2 x s = le 4 x) := rfl
  go_enter Tryd.func29, Tryd.ntmps29
  go_wp2_with fail
  rw [show ((x : Int) % 4294967296) = ((x % 4294967296 : Nat) : Int) from by omega]
  refine (PutU32_any vb bs (x % 4294967296) _ (hs.up (Up.alloc w _)) hl2 (by omega)).mono ?_
  rintro e w1 ⟨v1, rfl, ho, hu⟩
  have hU := (Up.alloc w _).trans hu
  have ho2 := ho.mono (base' := w.heap.size) (by simp)
  clear hs hu ho
  go_wp2
  go_ret2
  refine ⟨_, rfl, ?_, hU⟩
  rw [He.out]
  rw [← le_mod32]; exact ho2

set_option maxHeartbeats 800000 in
theorem called_3 (k : Int) (hk : k = 3) (vB vb : Value) (bs : List UInt8) (x : Nat) (s : ByteArray) (w : World) (hs : Sl 0 w vb bs) (hl : bs.length ≤ 140737400000000) (hx : Hid (x < 2 ^ 64)) :
    Calls Tryd.prog 29 #[PutV k vB x s, vb] w fun e w' => ∃ v', e = .returned (.tuple #[v', .nilIface]) ∧ Own w' 5 w.heap.size v' (bs ++ enc k x s) ∧ Up w w' := by
  have hl2 : bs.length ≤ 140737488351232 := by omega
  subst hk
  have He : Hid (enc 3 x s = le 8 x) := rfl
  go_enter Tryd.func29, Tryd.ntmps29
  go_wp2_with fail
  refine (PutU64_any vb bs x _ (hs.up (Up.alloc w _)) hl2 hx.out).mono ?_
  rintro e w1 ⟨v1, rfl, ho, hu⟩
  have hU := (Up.alloc w _).trans hu
  have ho2 := ho.mono (base' := w.heap.size) (by simp)
  clear hs hu ho
  go_wp2
  go_ret2
  refine ⟨_, rfl, ?_, hU⟩
  rw [He.out]
  exact ho2

set_option maxHeartbeats 800000 in
theorem called_4 (k : Int) (hk : k = 4) (vB vb : Value) (bs : List UInt8) (x : Nat) (s : ByteArray) (w : World) (hs : Sl 0 w vb bs) (hl : bs.length ≤ 140737400000000) (hx : Hid (x < 2 ^ 64)) (hn : (s.size : Int) ≤ 65535) :
    Calls Tryd.prog 29 #[PutV k vB x s, vb] w fun e w' => ∃ v', e = .returned (.tuple #[v', .nilIface]) ∧ Own w' 5 w.heap.size v' (bs ++ enc k x s) ∧ Up w w' := by
  have hl2 : bs.length ≤ 140737488351232 := by omega
  subst hk
  have He : Hid (enc 4 x s = le 2 s.size ++ Sb s) := rfl
  go_enter Tryd.func29, Tryd.ntmps29
  go_wp2_with fail
  refine (PutText_ok vb bs s _ (hs.up (Up.alloc w _)) hl hn).mono ?_
  rintro e w1 ⟨v1, rfl, ho, hu⟩
  have hU := (Up.alloc w _).trans hu
  have ho2 := ho.mono (base' := w.heap.size) (by simp)
  clear hs hu ho
  go_wp2
  go_ret2
  refine ⟨_, rfl, ?_, hU⟩
  rw [He.out]
  simpa using ho2

set_option maxHeartbeats 800000 in
theorem called_5 (k : Int) (hk : k ≠ 1 ∧ k ≠ 2 ∧ k ≠ 3 ∧ k ≠ 4) (vB vb : Value) (bs : List UInt8) (x : Nat) (s : ByteArray) (w : World) (hs : Sl 0 w vb bs) (hl : bs.length ≤ 140737400000000) (hx : Hid (x < 2 ^ 64)) :
    Calls Tryd.prog 29 #[PutV k vB x s, vb] w fun e w' => ∃ v', e = .returned (.tuple #[v', .nilIface]) ∧ Own w' 5 w.heap.size v' (bs ++ enc k x s) ∧ Up w w' := by
  have hl2 : bs.length ≤ 140737488351232 := by omega
  obtain ⟨k1, k2, k3, k4⟩ := hk
  have He : Hid (enc k x s = vn x) := by show _ = _; simp [enc, k1, k2, k3, k4]
  have g1 : (k == 1) = false := by simp; omega
  have g2 : (k == 2) = false := by simp; omega
  have g3 : (k == 3) = false := by simp; omega
  have g4 : (k == 4) = false := by simp; omega
  clear k1 k2 k3 k4
  go_enter Tryd.func29, Tryd.ntmps29
  go_wp2_with fail
  refine (PutNumber_any vb bs x _ (hs.up (Up.alloc w _)) hl2 hx.out).mono ?_
  rintro e w1 ⟨v1, rfl, ho, hu⟩
  have hU := (Up.alloc w _).trans hu
  have ho2 := ho.mono (base' := w.heap.size) (by simp)
  clear hs hu ho
  go_wp2
  go_ret2
  refine ⟨_, rfl, ?_, hU⟩
  rw [He.out]
  exact ho2

theorem called_any (k : Int) (vB vb : Value) (bs : List UInt8) (x : Nat) (s : ByteArray) (w : World) (hs : Sl 0 w vb bs) (hl : bs.length ≤ 140737400000000) (hx : Hid (x < 2 ^ 64)) (hn : k = 4 → (s.size : Int) ≤ 65535) :
    Calls Tryd.prog 29 #[PutV k vB x s, vb] w fun e w' => ∃ v', e = .returned (.tuple #[v', .nilIface]) ∧ Own w' 5 w.heap.size v' (bs ++ enc k x s) ∧ Up w w' := by
  by_cases h1 : k = 1
  · exact called_1 k h1 vB vb bs x s w hs hl hx
  by_cases h2 : k = 2
  · exact called_2 k h2 vB vb bs x s w hs hl hx
  by_cases h3 : k = 3
  · exact called_3 k h3 vB vb bs x s w hs hl hx
  by_cases h4 : k = 4
  · exact called_4 k h4 vB vb bs x s w hs hl hx (hn h4)
  · exact called_5 k ⟨h1, h2, h3, h4⟩ vB vb bs x s w hs hl hx

set_option maxHeartbeats 800000 in
theorem wanted_1 (k : Int) (hk : k = 1) (vB vb : Value) (bs : List UInt8) (x : Nat) (s : ByteArray) (w : World) (hs : Sl 0 w vb bs) (hl : bs.length ≤ 140737400000000) (hx : Hid (x < 2 ^ 64)) :
    Calls Tryd.prog 32 #[PutV k vB x s, vb] w fun e w' => ∃ v', e = .returned (.tuple #[v', .int .i64 0]) ∧ Own w' 5 w.heap.size v' (bs ++ enc k x s) ∧ Up w w' := by
  have hl2 : bs.length ≤ 140737488351232 := by omega
  subst hk
  have He : Hid (enc 1 x s = le 2 x) := rfl
  go_enter Tryd.func32, Tryd.ntmps32
  go_wp2_with fail
  rw [show IntKind.u16.wrap (x : Int) = ((x % 65536 : Nat) : Int) from by rw [IntKind.wrap_u16]; omega]
  refine (rPutU16_any 0 vb bs (x % 65536) _ (hs.up (Up.alloc w _)) hl2 (by omega)).mono ?_
  rintro e w1 ⟨v1, rfl, ho, hu⟩
  have hU := (Up.alloc w _).trans hu
  have ho2 := ho.mono (base' := w.heap.size) (by simp)
  clear hs hu ho
  go_wp2
  go_ret2
  refine ⟨_, rfl, ?_, hU⟩
  rw [He.out]
  rw [← le_mod16]; exact ho2

set_option maxHeartbeats 800000 in
theorem wanted_2 (k : Int) (hk : k = 2) (vB vb : Value) (bs : List UInt8) (x : Nat) (s : ByteArray) (w : World) (hs : Sl 0 w vb bs) (hl : bs.length ≤ 140737400000000) (hx : Hid (x < 2 ^ 64)) :
    Calls Tryd.prog 32 #[PutV k vB x s, vb] w fun e w' => ∃ v', e = .returned (.tuple #[v', .int .i64 0]) ∧ Own w' 5 w.heap.size v' (bs ++ enc k x s) ∧ Up w w' := by
  have hl2 : bs.length ≤ 140737488351232 := by omega
  subst hk
  have He : Hid (enc 2 x s = le 4 x) := rfl
  go_enter Tryd.func32, Tryd.ntmps32
  go_wp2_with fail
  rw [show ((x : Int) % 4294967296) = ((x % 4294967296 : Nat) : Int) from by omega]
  refine (rPutU32_any 0 vb bs (x % 4294967296) _ (hs.up (Up.alloc w _)) hl2 (by omega)).mono ?_
  rintro e w1 ⟨v1, rfl, ho, hu⟩
  have hU := (Up.alloc w _).trans hu
  have ho2 := ho.mono (base' := w.heap.size) (by simp)
  clear hs hu ho
  go_wp2
  go_ret2
  refine ⟨_, rfl, ?_, hU⟩
  rw [He.out]
  rw [← le_mod32]; exact ho2

set_option maxHeartbeats 800000 in
theorem wanted_3 (k : Int) (hk : k = 3) (vB vb : Value) (bs : List UInt8) (x : Nat) (s : ByteArray) (w : World) (hs : Sl 0 w vb bs) (hl : bs.length ≤ 140737400000000) (hx : Hid (x < 2 ^ 64)) :
    Calls Tryd.prog 32 #[PutV k vB x s, vb] w fun e w' => ∃ v', e = .returned (.tuple #[v', .int .i64 0]) ∧ Own w' 5 w.heap.size v' (bs ++ enc k x s) ∧ Up w w' := by
  have hl2 : bs.length ≤ 140737488351232 := by omega
  subst hk
  have He : Hid (enc 3 x s = le 8 x) := rfl
  go_enter Tryd.func32, Tryd.ntmps32
  go_wp2_with fail
  refine (rPutU64_any 0 vb bs x _ (hs.up (Up.alloc w _)) hl2 hx).mono ?_
  rintro e w1 ⟨v1, rfl, ho, hu⟩
  have hU := (Up.alloc w _).trans hu
  have ho2 := ho.mono (base' := w.heap.size) (by simp)
  clear hs hu ho
  go_wp2
  go_ret2
  refine ⟨_, rfl, ?_, hU⟩
  rw [He.out]
  exact ho2

set_option maxHeartbeats 800000 in
theorem wanted_4 (k : Int) (hk : k = 4) (vB vb : Value) (bs : List UInt8) (x : Nat) (s : ByteArray) (w : World) (hs : Sl 0 w vb bs) (hl : bs.length ≤ 140737400000000) (hx : Hid (x < 2 ^ 64)) (hn : (s.size : Int) ≤ 65535) :
    Calls Tryd.prog 32 #[PutV k vB x s, vb] w fun e w' => ∃ v', e = .returned (.tuple #[v', .int .i64 0]) ∧ Own w' 5 w.heap.size v' (bs ++ enc k x s) ∧ Up w w' := by
  have hl2 : bs.length ≤ 140737488351232 := by omega
  subst hk
  have He : Hid (enc 4 x s = le 2 s.size ++ Sb s) := rfl
  go_enter Tryd.func32, Tryd.ntmps32
  go_wp2_with fail
  refine (rPutText_ok vb bs s _ (hs.up (Up.alloc w _)) hl hn).mono ?_
  rintro e w1 ⟨v1, rfl, ho, hu⟩
  have hU := (Up.alloc w _).trans hu
  have ho2 := ho.mono (base' := w.heap.size) (by simp)
  clear hs hu ho
  go_wp2
  go_ret2
  refine ⟨_, rfl, ?_, hU⟩
  rw [He.out]
  simpa using ho2

set_option maxHeartbeats 800000 in
theorem wanted_5 (k : Int) (hk : k ≠ 1 ∧ k ≠ 2 ∧ k ≠ 3 ∧ k ≠ 4) (vB vb : Value) (bs : List UInt8) (x : Nat) (s : ByteArray) (w : World) (hs : Sl 0 w vb bs) (hl : bs.length ≤ 140737400000000) (hx : Hid (x < 2 ^ 64)) :
    Calls Tryd.prog 32 #[PutV k vB x s, vb] w fun e w' => ∃ v', e = .returned (.tuple #[v', .int .i64 0]) ∧ Own w' 5 w.heap.size v' (bs ++ enc k x s) ∧ Up w w' := by
  have hl2 : bs.length ≤ 140737488351232 := by omega
  obtain ⟨k1, k2, k3, k4⟩ := hk
  have He : Hid (enc k x s = vn x) := by show _ = _; simp [enc, k1, k2, k3, k4]
  have g1 : (k == 1) = false := by simp; omega
  have g2 : (k == 2) = false := by simp; omega
  have g3 : (k == 3) = false := by simp; omega
  have g4 : (k == 4) = false := by simp; omega
  clear k1 k2 k3 k4
  go_enter Tryd.func32, Tryd.ntmps32
  go_wp2_with fail
  refine (rPutNumber_any 0 vb bs x _ (hs.up (Up.alloc w _)) hl2 hx).mono ?_
  rintro e w1 ⟨v1, rfl, ho, hu⟩
  have hU := (Up.alloc w _).trans hu
  have ho2 := ho.mono (base' := w.heap.size) (by simp)
  clear hs hu ho
  go_wp2
  go_ret2
  refine ⟨_, rfl, ?_, hU⟩
  rw [He.out]
  exact ho2

theorem wanted_any (k : Int) (vB vb : Value) (bs : List UInt8) (x : Nat) (s : ByteArray) (w : World) (hs : Sl 0 w vb bs) (hl : bs.length ≤ 140737400000000) (hx : Hid (x < 2 ^ 64)) (hn : k = 4 → (s.size : Int) ≤ 65535) :
    Calls Tryd.prog 32 #[PutV k vB x s, vb] w fun e w' => ∃ v', e = .returned (.tuple #[v', .int .i64 0]) ∧ Own w' 5 w.heap.size v' (bs ++ enc k x s) ∧ Up w w' := by
  by_cases h1 : k = 1
  · exact wanted_1 k h1 vB vb bs x s w hs hl hx
  by_cases h2 : k = 2
  · exact wanted_2 k h2 vB vb bs x s w hs hl hx
  by_cases h3 : k = 3
  · exact wanted_3 k h3 vB vb bs x s w hs hl hx
  by_cases h4 : k = 4
  · exact wanted_4 k h4 vB vb bs x s w hs hl hx (hn h4)
  · exact wanted_5 k ⟨h1, h2, h3, h4⟩ vB vb bs x s w hs hl hx

set_option maxHeartbeats 400000 in
theorem called_long (vB vb : Value) (x : Nat) (s : ByteArray) (a : Addr) (w : World) (hg : Gl w 3 a) (hn : (65535 : Int) < (s.size : Int)) :
    Calls Tryd.prog 29 #[PutV 4 vB x s, vb] w fun e w' => e = .returned (.tuple #[.slice none 0 0, E a]) ∧ Up w w' := by
  go_enter Tryd.func29, Tryd.ntmps29
  go_wp2_with fail
  refine (PutText_long vb s a _ (hg.up (Up.alloc w _)) hn).mono ?_
  rintro e w1 ⟨rfl, hu⟩
  have hU := (Up.alloc w _).trans hu
  clear hu hn
  go_wp2
  go_ret2
  exact ⟨rfl, hU⟩
set_option maxHeartbeats 400000 in
theorem wanted_long (vB vb : Value) (x : Nat) (s : ByteArray) (w : World) (hn : (65535 : Int) < (s.size : Int)) :
    Calls Tryd.prog 32 #[PutV 4 vB x s, vb] w fun e w' => e = .returned (.tuple #[.slice none 0 0, .int .i64 4]) ∧ Up w w' := by
  go_enter Tryd.func32, Tryd.ntmps32
  go_wp2_with fail
  refine (rPutText_long vb s _ hn).mono ?_
  rintro e w1 ⟨rfl, hu⟩
  have hU := (Up.alloc w _).trans hu
  clear hu hn
  go_wp2
  go_ret2
  exact ⟨rfl, hU⟩
end Go.Proofs.YtpjpjoefmnnpmaaDoor

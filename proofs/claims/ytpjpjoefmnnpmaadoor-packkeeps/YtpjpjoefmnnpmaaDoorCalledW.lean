/- What called and wanted answer over every slice that the form lets in. -/
import Derived.Test.YtpjpjoefmnnpmaaDoorPutTextW
set_option linter.unusedVariables false
namespace Go.Proofs.YtpjpjoefmnnpmaaDoor
open Go Go.RowKit

set_option maxHeartbeats 800000 in
theorem calledW_1 (k : Int) (hk : k = 1) (vB vb : Value) (bs : List UInt8) (x : Nat) (s : ByteArray) (w : World) (hs : Sl 0 w vb bs) (hl : bs.length ≤ 140737488351232) (hx : Hid (x < 2 ^ 64)) :
    Calls Tryd.prog 29 #[PutV k vB x s, vb] w fun e w' => ∃ v', e = .returned (.tuple #[v', .nilIface]) ∧ Own w' 5 w.heap.size v' (bs ++ enc k x s) ∧ Up w w' := by
  have hl2 : bs.length ≤ 140737488351232 := by omega
  subst hk
  have He : Hid (enc 1 x s = le 2 x) := rfl
  go_enter Tryd.func29, Tryd.ntmps29
  go_wp2_with fail
  rw [show IntKind.u16.wrap (x : Int) = ((x % 65536 : Nat) : Int) from by rw [IntKind.wrap_u16]; omega]
  refine (PutU16_any vb bs (x % 65536) _ (hs.up (Up.alloc w _)) hl2 (by omega)).mono ?_
  rintro e w1 ⟨v1, rfl, ho, hu⟩
  have hU := (Up.alloc w _).trans hu
  have ho2 := ho.mono (base' := w.heap.size) (by simp)
  clear hs hu ho
  go_wp2
  go_ret2
  refine ⟨_, rfl, ?_, hU⟩
  rw [He.out]
  rw [← le_mod16]; exact ho2

set_option maxHeartbeats 800000 in
theorem calledW_2 (k : Int) (hk : k = 2) (vB vb : Value) (bs : List UInt8) (x : Nat) (s : ByteArray) (w : World) (hs : Sl 0 w vb bs) (hl : bs.length ≤ 140737488351232) (hx : Hid (x < 2 ^ 64)) :
    Calls Tryd.prog 29 #[PutV k vB x s, vb] w fun e w' => ∃ v', e = .returned (.tuple #[v', .nilIface]) ∧ Own w' 5 w.heap.size v' (bs ++ enc k x s) ∧ Up w w' := by
  have hl2 : bs.length ≤ 140737488351232 := by omega
  subst hk
  have He : Hid (enc 2 x s = le 4 x) := rfl
  go_enter Tryd.func29, Tryd.ntmps29
  go_wp2_with fail
  rw [show ((x : Int) % 4294967296) = ((x % 4294967296 : Nat) : Int) from by omega]
  refine (PutU32_any vb bs (x % 4294967296) _ (hs.up (Up.alloc w _)) hl2 (by omega)).mono ?_
  rintro e w1 ⟨v1, rfl, ho, hu⟩
  have hU := (Up.alloc w _).trans hu
  have ho2 := ho.mono (base' := w.heap.size) (by simp)
  clear hs hu ho
  go_wp2
  go_ret2
  refine ⟨_, rfl, ?_, hU⟩
  rw [He.out]
  rw [← le_mod32]; exact ho2

set_option maxHeartbeats 800000 in
theorem calledW_3 (k : Int) (hk : k = 3) (vB vb : Value) (bs : List UInt8) (x : Nat) (s : ByteArray) (w : World) (hs : Sl 0 w vb bs) (hl : bs.length ≤ 140737488351232) (hx : Hid (x < 2 ^ 64)) :
    Calls Tryd.prog 29 #[PutV k vB x s, vb] w fun e w' => ∃ v', e = .returned (.tuple #[v', .nilIface]) ∧ Own w' 5 w.heap.size v' (bs ++ enc k x s) ∧ Up w w' := by
  have hl2 : bs.length ≤ 140737488351232 := by omega
  subst hk
  have He : Hid (enc 3 x s = le 8 x) := rfl
  go_enter Tryd.func29, Tryd.ntmps29
  go_wp2_with fail
  refine (PutU64_any vb bs x _ (hs.up (Up.alloc w _)) hl2 hx.out).mono ?_
  rintro e w1 ⟨v1, rfl, ho, hu⟩
  have hU := (Up.alloc w _).trans hu
  have ho2 := ho.mono (base' := w.heap.size) (by simp)
  clear hs hu ho
  go_wp2
  go_ret2
  refine ⟨_, rfl, ?_, hU⟩
  rw [He.out]
  exact ho2

set_option maxHeartbeats 800000 in
theorem calledW_4 (k : Int) (hk : k = 4) (vB vb : Value) (bs : List UInt8) (x : Nat) (s : ByteArray) (w : World) (hs : Sl 0 w vb bs) (hl : bs.length ≤ 140737488351232) (hx : Hid (x < 2 ^ 64)) (hn : (s.size : Int) ≤ 65535) :
    Calls Tryd.prog 29 #[PutV k vB x s, vb] w fun e w' => ∃ v', e = .returned (.tuple #[v', .nilIface]) ∧ Own w' 5 w.heap.size v' (bs ++ enc k x s) ∧ Up w w' := by
  have hl2 : bs.length ≤ 140737488351232 := by omega
  subst hk
  have He : Hid (enc 4 x s = le 2 s.size ++ Sb s) := rfl
  go_enter Tryd.func29, Tryd.ntmps29
  go_wp2_with fail
  refine (PutTextW_ok vb bs s _ (hs.up (Up.alloc w _)) hl hn).mono ?_
  rintro e w1 ⟨v1, rfl, ho, hu⟩
  have hU := (Up.alloc w _).trans hu
  have ho2 := ho.mono (base' := w.heap.size) (by simp)
  clear hs hu ho
  go_wp2
  go_ret2
  refine ⟨_, rfl, ?_, hU⟩
  rw [He.out]
  simpa using ho2

set_option maxHeartbeats 800000 in
theorem calledW_5 (k : Int) (hk : k ≠ 1 ∧ k ≠ 2 ∧ k ≠ 3 ∧ k ≠ 4) (vB vb : Value) (bs : List UInt8) (x : Nat) (s : ByteArray) (w : World) (hs : Sl 0 w vb bs) (hl : bs.length ≤ 140737488351232) (hx : Hid (x < 2 ^ 64)) :
    Calls Tryd.prog 29 #[PutV k vB x s, vb] w fun e w' => ∃ v', e = .returned (.tuple #[v', .nilIface]) ∧ Own w' 5 w.heap.size v' (bs ++ enc k x s) ∧ Up w w' := by
  have hl2 : bs.length ≤ 140737488351232 := by omega
  obtain ⟨k1, k2, k3, k4⟩ := hk
  have He : Hid (enc k x s = vn x) := by show _ = _; simp [enc, k1, k2, k3, k4]
  have g1 : (k == 1) = false := by simp; omega
  have g2 : (k == 2) = false := by simp; omega
  have g3 : (k == 3) = false := by simp; omega
  have g4 : (k == 4) = false := by simp; omega
  clear k1 k2 k3 k4
  go_enter Tryd.func29, Tryd.ntmps29
  go_wp2_with fail
  refine (PutNumber_any vb bs x _ (hs.up (Up.alloc w _)) hl2 hx.out).mono ?_
  rintro e w1 ⟨v1, rfl, ho, hu⟩
  have hU := (Up.alloc w _).trans hu
  have ho2 := ho.mono (base' := w.heap.size) (by simp)
  clear hs hu ho
  go_wp2
  go_ret2
  refine ⟨_, rfl, ?_, hU⟩
  rw [He.out]
  exact ho2

theorem calledW_any (k : Int) (vB vb : Value) (bs : List UInt8) (x : Nat) (s : ByteArray) (w : World) (hs : Sl 0 w vb bs) (hl : bs.length ≤ 140737488351232) (hx : Hid (x < 2 ^ 64)) (hn : k = 4 → (s.size : Int) ≤ 65535) :
    Calls Tryd.prog 29 #[PutV k vB x s, vb] w fun e w' => ∃ v', e = .returned (.tuple #[v', .nilIface]) ∧ Own w' 5 w.heap.size v' (bs ++ enc k x s) ∧ Up w w' := by
  by_cases h1 : k = 1
  · exact calledW_1 k h1 vB vb bs x s w hs hl hx
  by_cases h2 : k = 2
  · exact calledW_2 k h2 vB vb bs x s w hs hl hx
  by_cases h3 : k = 3
  · exact calledW_3 k h3 vB vb bs x s w hs hl hx
  by_cases h4 : k = 4
  · exact calledW_4 k h4 vB vb bs x s w hs hl hx (hn h4)
  · exact calledW_5 k ⟨h1, h2, h3, h4⟩ vB vb bs x s w hs hl hx

set_option maxHeartbeats 800000 in
theorem wantedW_1 (k : Int) (hk : k = 1) (vB vb : Value) (bs : List UInt8) (x : Nat) (s : ByteArray) (w : World) (hs : Sl 0 w vb bs) (hl : bs.length ≤ 140737488351232) (hx : Hid (x < 2 ^ 64)) :
    Calls Tryd.prog 32 #[PutV k vB x s, vb] w fun e w' => ∃ v', e = .returned (.tuple #[v', .int .i64 0]) ∧ Own w' 5 w.heap.size v' (bs ++ enc k x s) ∧ Up w w' := by
  have hl2 : bs.length ≤ 140737488351232 := by omega
  subst hk
  have He : Hid (enc 1 x s = le 2 x) := rfl
  go_enter Tryd.func32, Tryd.ntmps32
  go_wp2_with fail
  rw [show IntKind.u16.wrap (x : Int) = ((x % 65536 : Nat) : Int) from by rw [IntKind.wrap_u16]; omega]
  refine (rPutU16_any 0 vb bs (x % 65536) _ (hs.up (Up.alloc w _)) hl2 (by omega)).mono ?_
  rintro e w1 ⟨v1, rfl, ho, hu⟩
  have hU := (Up.alloc w _).trans hu
  have ho2 := ho.mono (base' := w.heap.size) (by simp)
  clear hs hu ho
  go_wp2
  go_ret2
  refine ⟨_, rfl, ?_, hU⟩
  rw [He.out]
  rw [← le_mod16]; exact ho2

set_option maxHeartbeats 800000 in
theorem wantedW_2 (k : Int) (hk : k = 2) (vB vb : Value) (bs : List UInt8) (x : Nat) (s : ByteArray) (w : World) (hs : Sl 0 w vb bs) (hl : bs.length ≤ 140737488351232) (hx : Hid (x < 2 ^ 64)) :
    Calls Tryd.prog 32 #[PutV k vB x s, vb] w fun e w' => ∃ v', e = .returned (.tuple #[v', .int .i64 0]) ∧ Own w' 5 w.heap.size v' (bs ++ enc k x s) ∧ Up w w' := by
  have hl2 : bs.length ≤ 140737488351232 := by omega
  subst hk
  have He : Hid (enc 2 x s = le 4 x) := rfl
  go_enter Tryd.func32, Tryd.ntmps32
  go_wp2_with fail
  rw [show ((x : Int) % 4294967296) = ((x % 4294967296 : Nat) : Int) from by omega]
  refine (rPutU32_any 0 vb bs (x % 4294967296) _ (hs.up (Up.alloc w _)) hl2 (by omega)).mono ?_
  rintro e w1 ⟨v1, rfl, ho, hu⟩
  have hU := (Up.alloc w _).trans hu
  have ho2 := ho.mono (base' := w.heap.size) (by simp)
  clear hs hu ho
  go_wp2
  go_ret2
  refine ⟨_, rfl, ?_, hU⟩
  rw [He.out]
  rw [← le_mod32]; exact ho2

set_option maxHeartbeats 800000 in
theorem wantedW_3 (k : Int) (hk : k = 3) (vB vb : Value) (bs : List UInt8) (x : Nat) (s : ByteArray) (w : World) (hs : Sl 0 w vb bs) (hl : bs.length ≤ 140737488351232) (hx : Hid (x < 2 ^ 64)) :
    Calls Tryd.prog 32 #[PutV k vB x s, vb] w fun e w' => ∃ v', e = .returned (.tuple #[v', .int .i64 0]) ∧ Own w' 5 w.heap.size v' (bs ++ enc k x s) ∧ Up w w' := by
  have hl2 : bs.length ≤ 140737488351232 := by omega
  subst hk
  have He : Hid (enc 3 x s = le 8 x) := rfl
  go_enter Tryd.func32, Tryd.ntmps32
  go_wp2_with fail
  refine (rPutU64_any 0 vb bs x _ (hs.up (Up.alloc w _)) hl2 hx).mono ?_
  rintro e w1 ⟨v1, rfl, ho, hu⟩
  have hU := (Up.alloc w _).trans hu
  have ho2 := ho.mono (base' := w.heap.size) (by simp)
  clear hs hu ho
  go_wp2
  go_ret2
  refine ⟨_, rfl, ?_, hU⟩
  rw [He.out]
  exact ho2

set_option maxHeartbeats 800000 in
theorem wantedW_4 (k : Int) (hk : k = 4) (vB vb : Value) (bs : List UInt8) (x : Nat) (s : ByteArray) (w : World) (hs : Sl 0 w vb bs) (hl : bs.length ≤ 140737488351232) (hx : Hid (x < 2 ^ 64)) (hn : (s.size : Int) ≤ 65535) :
    Calls Tryd.prog 32 #[PutV k vB x s, vb] w fun e w' => ∃ v', e = .returned (.tuple #[v', .int .i64 0]) ∧ Own w' 5 w.heap.size v' (bs ++ enc k x s) ∧ Up w w' := by
  have hl2 : bs.length ≤ 140737488351232 := by omega
  subst hk
  have He : Hid (enc 4 x s = le 2 s.size ++ Sb s) := rfl
  go_enter Tryd.func32, Tryd.ntmps32
  go_wp2_with fail
  refine (rPutTextW_ok vb bs s _ (hs.up (Up.alloc w _)) hl hn).mono ?_
  rintro e w1 ⟨v1, rfl, ho, hu⟩
  have hU := (Up.alloc w _).trans hu
  have ho2 := ho.mono (base' := w.heap.size) (by simp)
  clear hs hu ho
  go_wp2
  go_ret2
  refine ⟨_, rfl, ?_, hU⟩
  rw [He.out]
  simpa using ho2

set_option maxHeartbeats 800000 in
theorem wantedW_5 (k : Int) (hk : k ≠ 1 ∧ k ≠ 2 ∧ k ≠ 3 ∧ k ≠ 4) (vB vb : Value) (bs : List UInt8) (x : Nat) (s : ByteArray) (w : World) (hs : Sl 0 w vb bs) (hl : bs.length ≤ 140737488351232) (hx : Hid (x < 2 ^ 64)) :
    Calls Tryd.prog 32 #[PutV k vB x s, vb] w fun e w' => ∃ v', e = .returned (.tuple #[v', .int .i64 0]) ∧ Own w' 5 w.heap.size v' (bs ++ enc k x s) ∧ Up w w' := by
  have hl2 : bs.length ≤ 140737488351232 := by omega
  obtain ⟨k1, k2, k3, k4⟩ := hk
  have He : Hid (enc k x s = vn x) := by show _ = _; simp [enc, k1, k2, k3, k4]
  have g1 : (k == 1) = false := by simp; omega
  have g2 : (k == 2) = false := by simp; omega
  have g3 : (k == 3) = false := by simp; omega
  have g4 : (k == 4) = false := by simp; omega
  clear k1 k2 k3 k4
  go_enter Tryd.func32, Tryd.ntmps32
  go_wp2_with fail
  refine (rPutNumber_any 0 vb bs x _ (hs.up (Up.alloc w _)) hl2 hx).mono ?_
  rintro e w1 ⟨v1, rfl, ho, hu⟩
  have hU := (Up.alloc w _).trans hu
  have ho2 := ho.mono (base' := w.heap.size) (by simp)
  clear hs hu ho
  go_wp2
  go_ret2
  refine ⟨_, rfl, ?_, hU⟩
  rw [He.out]
  exact ho2

theorem wantedW_any (k : Int) (vB vb : Value) (bs : List UInt8) (x : Nat) (s : ByteArray) (w : World) (hs : Sl 0 w vb bs) (hl : bs.length ≤ 140737488351232) (hx : Hid (x < 2 ^ 64)) (hn : k = 4 → (s.size : Int) ≤ 65535) :
    Calls Tryd.prog 32 #[PutV k vB x s, vb] w fun e w' => ∃ v', e = .returned (.tuple #[v', .int .i64 0]) ∧ Own w' 5 w.heap.size v' (bs ++ enc k x s) ∧ Up w w' := by
  by_cases h1 : k = 1
  · exact wantedW_1 k h1 vB vb bs x s w hs hl hx
  by_cases h2 : k = 2
  · exact wantedW_2 k h2 vB vb bs x s w hs hl hx
  by_cases h3 : k = 3
  · exact wantedW_3 k h3 vB vb bs x s w hs hl hx
  by_cases h4 : k = 4
  · exact wantedW_4 k h4 vB vb bs x s w hs hl hx (hn h4)
  · exact wantedW_5 k ⟨h1, h2, h3, h4⟩ vB vb bs x s w hs hl hx

end Go.Proofs.YtpjpjoefmnnpmaaDoor

/- What taken of layer 1's laws answers: over what was put, and over a beginning of it. -/
import Derived.Test.YtpjpjoefmnnpmaaDoorCalled
import Derived.Test.YtpjpjoefmnnpmaaDoorLives
import Derived.Deep.RegionWith
set_option linter.unusedVariables false
namespace Go.Proofs.YtpjpjoefmnnpmaaDoor
open Go Go.RowKit

/-- Behind taken: a new block, and the reader's own. -/
def But2 (r : Nat) (w w' : World) : Prop := But r w w'

theorem unle_le (n x : Nat) : unle (le n x) = x % 256 ^ n := by
  induction n generalizing x with
  | zero => simp [le, unle, Nat.mod_one]
  | succ n ih =>
    have e : (256 : Nat) ^ (n + 1) = 256 * 256 ^ n := by rw [Nat.pow_succ, Nat.mul_comm]
    rw [le, unle, ih, UInt8.toNat_ofNat', e, Nat.mod_mul]

/-- The box of the Put is as it was laid, behind a call that leaves all but the reader. -/
theorem box_kept {w w1 : World} {cs : Array Value} {t : TypeId} {r i : Nat} {v : Value} (hb : But r (w.alloc (Obj.cells cs t)).drew w1) (hr : r < w.heap.size) (hi : cs[i]? = some v) : w1.cell? ⟨w.heap.size, i, none⟩ = some v := by
  have h1 := hb.block w.heap.size (by show w.heap.size < (w.heap.push _).size; simp) (by simp; omega)
  have h2 : w1.cell? ⟨w.heap.size, i, none⟩ = (w.alloc (Obj.cells cs t)).drew.cell? ⟨w.heap.size, i, none⟩ := by
    simp only [World.cell?, h1]
  rw [h2]
  unfold World.cell?
  have h3 : (w.alloc (Obj.cells cs t)).drew.heap[w.heap.size]? = some (Obj.cells cs t) := by
    show (w.heap.push _)[w.heap.size]? = _
    simp
  simp only [h3]
  simpa using hi

theorem whole_put (n x : Nat) (rest : List UInt8) (aS : Addr) : wholeA n (le n x ++ rest) .nilIface = x % 256 ^ n ∧ wholeL n (le n x ++ rest) .nilIface = rest ∧ wholeF aS n (le n x ++ rest) .nilIface = .nilIface := by
  have hl := le_length n x
  have h : n ≤ (le n x ++ rest).length := by simp [hl]
  simp only [wholeA, wholeL, wholeF, if_pos h]
  have e1 : (le n x ++ rest).take n = le n x := by rw [List.take_append_of_le_length (by omega), List.take_of_length_le (by omega)]
  have e2 : (le n x ++ rest).drop n = rest := by rw [List.drop_append_of_le_length (by omega), List.drop_of_length_le (by omega)]; rfl
  rw [e1, e2, unle_le]
  exact ⟨rfl, rfl, trivial⟩
theorem whole_cut (n : Nat) (bs : List UInt8) (aS : Addr) (h : bs.length < n) : wholeA n bs .nilIface = 0 ∧ wholeL n bs .nilIface = bs ∧ wholeF aS n bs .nilIface = E aS := by
  have h' : ¬ n ≤ bs.length := by omega
  simp only [wholeA, wholeL, wholeF, if_neg h']
  exact ⟨trivial, trivial, trivial⟩

theorem text_put (s : ByteArray) (hs : s.size ≤ 65535) (rest : List UInt8) (aS : Addr) : textA (le 2 s.size ++ Sb s ++ rest) .nilIface = Sb s ∧ textL (le 2 s.size ++ Sb s ++ rest) .nilIface = rest ∧ textF aS (le 2 s.size ++ Sb s ++ rest) .nilIface = .nilIface := by
  have hl := le_length 2 s.size
  have e1 : (le 2 s.size ++ Sb s ++ rest).take 2 = le 2 s.size := by rw [List.append_assoc, List.take_append_of_le_length (by omega), List.take_of_length_le (by omega)]
  have e2 : (le 2 s.size ++ Sb s ++ rest).drop 2 = Sb s ++ rest := by rw [List.append_assoc, List.drop_append_of_le_length (by omega), List.drop_of_length_le (by omega)]; rfl
  have e3 : unle (le 2 s.size) = s.size := by rw [unle_le]; exact Nat.mod_eq_of_lt (by omega)
  have hsb := Sb_len s
  have hok : textOk (le 2 s.size ++ Sb s ++ rest) := by
    refine ⟨by simp only [List.length_append, hl]; omega, ?_⟩
    rw [e1, e3]; simp only [List.length_append, hl, hsb]; omega
  simp only [textA, textL, textF, if_pos hok, e1, e3]
  refine ⟨?_, ?_, trivial⟩
  · rw [e2, List.take_append_of_le_length (by omega), List.take_of_length_le (by omega)]
  · rw [← List.drop_drop, e2, List.drop_append_of_le_length (by omega), List.drop_of_length_le (by omega)]; rfl
theorem text_cut (s : ByteArray) (hs : s.size ≤ 65535) (j : Nat) (hj : j < 2 + s.size) (aS : Addr) : textA ((le 2 s.size ++ Sb s).take j) .nilIface = [] ∧ textL ((le 2 s.size ++ Sb s).take j) .nilIface = (le 2 s.size ++ Sb s).take j ∧ textF aS ((le 2 s.size ++ Sb s).take j) .nilIface = E aS := by
  have hl := le_length 2 s.size
  have hsb := Sb_len s
  have hok : ¬ textOk ((le 2 s.size ++ Sb s).take j) := by
    rintro ⟨h1, h2⟩
    have hj2 : ((le 2 s.size ++ Sb s).take j).length = j := by simp only [List.length_take, List.length_append, hl, hsb]; omega
    rw [hj2] at h1 h2
    have e1 : ((le 2 s.size ++ Sb s).take j).take 2 = le 2 s.size := by rw [List.take_take, Nat.min_eq_left h1, List.take_append_of_le_length (by omega), List.take_of_length_le (by omega)]
    have e3 : unle (le 2 s.size) = s.size := by rw [unle_le]; exact Nat.mod_eq_of_lt (by omega)
    rw [e1, e3] at h2
    omega
  simp only [textA, textL, textF, if_neg hok]
  exact ⟨trivial, trivial, trivial⟩

theorem numR_cut (aS aF : Addr) : ∀ f i acc x j, i + f = 10 → x < 2 ^ (64 - 7 * i) → j < (vnF f x).length → numR aS aF i acc ((vnF f x).take j) = (0, 0, E aS) := by
  intro f
  induction f with
  | zero => intro i acc x j _ _ hj; simp [vnF] at hj
  | succ f ih =>
    intro i acc x j hi hx hj
    cases j with
    | zero => rfl
    | succ j =>
      unfold vnF at hj ⊢
      by_cases h : x < 128
      · rw [if_pos h] at hj; simp at hj
      · rw [if_neg h] at hj ⊢
        have hm : x % 128 < 128 := Nat.mod_lt _ (by omega)
        have ht : (UInt8.ofNat (x % 128 + 128)).toNat = x % 128 + 128 := by rw [UInt8.toNat_ofNat']; omega
        have hi9 : i ≠ 9 := by rintro rfl; simp at hx; omega
        have hb : ¬ ((0 < i ∧ x % 128 + 128 = 0) ∨ (i = 9 ∧ 1 < x % 128 + 128)) := by omega
        have e2 : 2 ^ (64 - 7 * i) = 2 ^ (64 - 7 * (i + 1)) * 128 := by rw [show 64 - 7 * i = (64 - 7 * (i + 1)) + 7 by omega, Nat.pow_add]
        have hx' : x / 128 < 2 ^ (64 - 7 * (i + 1)) := by
          rw [e2] at hx
          exact Nat.div_lt_of_lt_mul (by rwa [Nat.mul_comm] at hx)
        simp only [List.take_succ_cons, numR, ht, if_neg hb, if_neg (show ¬ x % 128 + 128 < 128 by omega)]
        exact ih (i + 1) _ (x / 128) j (by omega) hx' (by simp at hj; omega)

theorem num_put (aS aF : Addr) (x : Nat) (hx : x < 2 ^ 64) (rest : List UInt8) : numA aS aF (vn x ++ rest) .nilIface = x ∧ numL aS aF (vn x ++ rest) .nilIface = rest ∧ numF aS aF (vn x ++ rest) .nilIface = .nilIface := by
  have h := numR_vn aS aF x rest hx
  simp only [numA, numL, numF, h]
  refine ⟨trivial, ?_, trivial⟩
  rw [List.drop_append_of_le_length (Nat.le_refl _), List.drop_of_length_le (Nat.le_refl _)]; rfl
theorem num_cut (aS aF : Addr) (x : Nat) (hx : x < 2 ^ 64) (j : Nat) (hj : j < (vn x).length) : numA aS aF ((vn x).take j) .nilIface = 0 ∧ numL aS aF ((vn x).take j) .nilIface = (vn x).take j ∧ numF aS aF ((vn x).take j) .nilIface = E aS := by
  have h : numR aS aF 0 0 ((vn x).take j) = (0, 0, E aS) := numR_cut aS aF 10 0 0 x j (by omega) (by simpa using hx) hj
  simp only [numA, numL, numF, h]
  exact ⟨trivial, rfl, trivial⟩

theorem str_eta (s : ByteArray) : (⟨(Sb s).toArray⟩ : ByteArray) = s := by
  cases s; simp [Sb]

set_option maxHeartbeats 800000 in
theorem taken_ok1 (base r : Nat) (k : Int) (hk : k = 1) (vB : Value) (x : Nat) (s : ByteArray) (rest : List UInt8) (aS aF aN : Addr) (w : World) (hr : Rdr base w r (enc k x s ++ rest) .nilIface) (h : Errs w aS aF aN) (hx : Hid (x < 2 ^ 64)) (hlen : (enc k x s ++ rest).length ≤ 140737400000000) :
    Calls Tryd.prog 17 #[.pointer (some ⟨r, 0, none⟩), PutV k vB x s] w fun e w' => e = .returned (.bool true) ∧ Rdr base w' r rest .nilIface ∧ But2 r w w' := by
  subst hk
  have henc : enc 1 x s = le 2 x := rfl
  have hm := whole_put 2 x rest aS
  rw [henc] at hr hlen
  have key : ∀ u, Up w u → Calls Tryd.prog 40 #[.pointer (some ⟨r, 0, none⟩)] u fun e u' => e = .returned (.int .u16 (IntKind.u16.wrap (x : Int))) ∧ Rdr base u' r rest .nilIface ∧ But r u u' := by
    intro u hu
    have hru := hr.up hu
    have hSu := h.short.up hu
    have hFu := h.form.up hu
    have hc := (U16_any base r _ .nilIface aS u hru (.inl rfl) hSu)
    rw [hm.1, hm.2.1, hm.2.2] at hc
    rw [show (((x % 256 ^ 2 : Nat)) : Int) = IntKind.u16.wrap (x : Int) from by rw [IntKind.wrap_u16]; omega] at hc
    exact hc
  have Key : Hid _ := key
  have hu0 : ∀ o, Up w (w.alloc o).drew := fun o => (Up.alloc w o).trans (Up.drew _)
  have hrlt := hr.lt
  clear hm key hr h hlen
  go_enter Tryd.func17, Tryd.ntmps17
  go_wp2_with fail
  go_region_with (first
    | (go_at_call 40; refine (Key.out _ (hu0 _)).mono ?_; rintro e w1 ⟨rfl, h1, hb1⟩; have hbox := box_kept (i := 2) hb1 hrlt rfl; have hfin : Hid (But2 r w w1) := (But.of_up r (hu0 _)).trans hb1; clear hb1))
  all_goals (go_wp2; go_ret; exact ⟨rfl, h1, hfin.out⟩)

set_option maxHeartbeats 800000 in
theorem taken_cut1 (base r : Nat) (k : Int) (hk : k = 1) (vB : Value) (x : Nat) (s : ByteArray) (j : Nat) (hj : j < (enc k x s).length) (aS aF aN : Addr) (w : World) (hr : Rdr base w r ((enc k x s).take j) .nilIface) (h : Errs w aS aF aN) (hx : Hid (x < 2 ^ 64)) (hlen : (enc k x s).length ≤ 140737400000000) :
    Calls Tryd.prog 17 #[.pointer (some ⟨r, 0, none⟩), PutV k vB x s] w fun e w' => (∃ b, e = .returned (.bool b)) ∧ Rdr base w' r ((enc k x s).take j) (E aS) ∧ But2 r w w' := by
  subst hk
  have henc : enc 1 x s = le 2 x := rfl
  have hm := whole_cut 2 ((le 2 x).take j) aS (by rw [henc, le_length] at hj; simp [le_length]; omega)
  rw [henc] at hr hlen hj
  have key : ∀ u, Up w u → Calls Tryd.prog 40 #[.pointer (some ⟨r, 0, none⟩)] u fun e u' => e = .returned (.int .u16 (((0 : Nat)) : Int)) ∧ Rdr base u' r ((le 2 x).take j) (E aS) ∧ But r u u' := by
    intro u hu
    have hru := hr.up hu
    have hSu := h.short.up hu
    have hFu := h.form.up hu
    have hc := (U16_any base r _ .nilIface aS u hru (.inl rfl) hSu)
    rw [hm.1, hm.2.1, hm.2.2] at hc
    exact hc
  have Key : Hid _ := key
  have hu0 : ∀ o, Up w (w.alloc o).drew := fun o => (Up.alloc w o).trans (Up.drew _)
  have hrlt := hr.lt
  clear hm key hr h hlen hj
  go_enter Tryd.func17, Tryd.ntmps17
  go_wp2_with fail
  go_region_with (first
    | (go_at_call 40; refine (Key.out _ (hu0 _)).mono ?_; rintro e w1 ⟨rfl, h1, hb1⟩; have hbox := box_kept (i := 2) hb1 hrlt rfl; have hfin : Hid (But2 r w w1) := (But.of_up r (hu0 _)).trans hb1; clear hb1))
  all_goals (go_wp2; go_ret; exact ⟨⟨_, rfl⟩, h1, hfin.out⟩)

set_option maxHeartbeats 800000 in
theorem taken_ok2 (base r : Nat) (k : Int) (hk : k = 2) (vB : Value) (x : Nat) (s : ByteArray) (rest : List UInt8) (aS aF aN : Addr) (w : World) (hr : Rdr base w r (enc k x s ++ rest) .nilIface) (h : Errs w aS aF aN) (hx : Hid (x < 2 ^ 64)) (hlen : (enc k x s ++ rest).length ≤ 140737400000000) :
    Calls Tryd.prog 17 #[.pointer (some ⟨r, 0, none⟩), PutV k vB x s] w fun e w' => e = .returned (.bool true) ∧ Rdr base w' r rest .nilIface ∧ But2 r w w' := by
  subst hk
  have henc : enc 2 x s = le 4 x := rfl
  have hm := whole_put 4 x rest aS
  rw [henc] at hr hlen
  have key : ∀ u, Up w u → Calls Tryd.prog 42 #[.pointer (some ⟨r, 0, none⟩)] u fun e u' => e = .returned (.int .u32 (IntKind.u32.wrap (x : Int))) ∧ Rdr base u' r rest .nilIface ∧ But r u u' := by
    intro u hu
    have hru := hr.up hu
    have hSu := h.short.up hu
    have hFu := h.form.up hu
    have hc := (U32_any base r _ .nilIface aS u hru (.inl rfl) hSu)
    rw [hm.1, hm.2.1, hm.2.2] at hc
    rw [show (((x % 256 ^ 4 : Nat)) : Int) = IntKind.u32.wrap (x : Int) from by rw [IntKind.wrap_u32]; omega] at hc
    exact hc
  have Key : Hid _ := key
  have hu0 : ∀ o, Up w (w.alloc o).drew := fun o => (Up.alloc w o).trans (Up.drew _)
  have hrlt := hr.lt
  clear hm key hr h hlen
  go_enter Tryd.func17, Tryd.ntmps17
  go_wp2_with fail
  go_region_with (first
    | (go_at_call 42; refine (Key.out _ (hu0 _)).mono ?_; rintro e w1 ⟨rfl, h1, hb1⟩; have hbox := box_kept (i := 2) hb1 hrlt rfl; have hfin : Hid (But2 r w w1) := (But.of_up r (hu0 _)).trans hb1; clear hb1))
  all_goals (go_wp2; go_ret; exact ⟨rfl, h1, hfin.out⟩)

set_option maxHeartbeats 800000 in
theorem taken_cut2 (base r : Nat) (k : Int) (hk : k = 2) (vB : Value) (x : Nat) (s : ByteArray) (j : Nat) (hj : j < (enc k x s).length) (aS aF aN : Addr) (w : World) (hr : Rdr base w r ((enc k x s).take j) .nilIface) (h : Errs w aS aF aN) (hx : Hid (x < 2 ^ 64)) (hlen : (enc k x s).length ≤ 140737400000000) :
    Calls Tryd.prog 17 #[.pointer (some ⟨r, 0, none⟩), PutV k vB x s] w fun e w' => (∃ b, e = .returned (.bool b)) ∧ Rdr base w' r ((enc k x s).take j) (E aS) ∧ But2 r w w' := by
  subst hk
  have henc : enc 2 x s = le 4 x := rfl
  have hm := whole_cut 4 ((le 4 x).take j) aS (by rw [henc, le_length] at hj; simp [le_length]; omega)
  rw [henc] at hr hlen hj
  have key : ∀ u, Up w u → Calls Tryd.prog 42 #[.pointer (some ⟨r, 0, none⟩)] u fun e u' => e = .returned (.int .u32 (((0 : Nat)) : Int)) ∧ Rdr base u' r ((le 4 x).take j) (E aS) ∧ But r u u' := by
    intro u hu
    have hru := hr.up hu
    have hSu := h.short.up hu
    have hFu := h.form.up hu
    have hc := (U32_any base r _ .nilIface aS u hru (.inl rfl) hSu)
    rw [hm.1, hm.2.1, hm.2.2] at hc
    exact hc
  have Key : Hid _ := key
  have hu0 : ∀ o, Up w (w.alloc o).drew := fun o => (Up.alloc w o).trans (Up.drew _)
  have hrlt := hr.lt
  clear hm key hr h hlen hj
  go_enter Tryd.func17, Tryd.ntmps17
  go_wp2_with fail
  go_region_with (first
    | (go_at_call 42; refine (Key.out _ (hu0 _)).mono ?_; rintro e w1 ⟨rfl, h1, hb1⟩; have hbox := box_kept (i := 2) hb1 hrlt rfl; have hfin : Hid (But2 r w w1) := (But.of_up r (hu0 _)).trans hb1; clear hb1))
  all_goals (go_wp2; go_ret; exact ⟨⟨_, rfl⟩, h1, hfin.out⟩)

set_option maxHeartbeats 800000 in
theorem taken_ok3 (base r : Nat) (k : Int) (hk : k = 3) (vB : Value) (x : Nat) (s : ByteArray) (rest : List UInt8) (aS aF aN : Addr) (w : World) (hr : Rdr base w r (enc k x s ++ rest) .nilIface) (h : Errs w aS aF aN) (hx : Hid (x < 2 ^ 64)) (hlen : (enc k x s ++ rest).length ≤ 140737400000000) :
    Calls Tryd.prog 17 #[.pointer (some ⟨r, 0, none⟩), PutV k vB x s] w fun e w' => e = .returned (.bool true) ∧ Rdr base w' r rest .nilIface ∧ But2 r w w' := by
  subst hk
  have henc : enc 3 x s = le 8 x := rfl
  have hm := whole_put 8 x rest aS
  rw [henc] at hr hlen
  have key : ∀ u, Up w u → Calls Tryd.prog 44 #[.pointer (some ⟨r, 0, none⟩)] u fun e u' => e = .returned (.int .u64 (x : Int)) ∧ Rdr base u' r rest .nilIface ∧ But r u u' := by
    intro u hu
    have hru := hr.up hu
    have hSu := h.short.up hu
    have hFu := h.form.up hu
    have hc := (U64_any base r _ .nilIface aS u hru (.inl rfl) hSu)
    rw [hm.1, hm.2.1, hm.2.2] at hc
    rw [show x % 256 ^ 8 = x from Nat.mod_eq_of_lt (by have := hx.out; omega)] at hc
    exact hc
  have Key : Hid _ := key
  have hu0 : ∀ o, Up w (w.alloc o).drew := fun o => (Up.alloc w o).trans (Up.drew _)
  have hrlt := hr.lt
  clear hm key hr h hlen
  go_enter Tryd.func17, Tryd.ntmps17
  go_wp2_with fail
  go_region_with (first
    | (go_at_call 44; refine (Key.out _ (hu0 _)).mono ?_; rintro e w1 ⟨rfl, h1, hb1⟩; have hbox := box_kept (i := 2) hb1 hrlt rfl; have hfin : Hid (But2 r w w1) := (But.of_up r (hu0 _)).trans hb1; clear hb1))
  all_goals (go_wp2; go_ret; exact ⟨rfl, h1, hfin.out⟩)

set_option maxHeartbeats 800000 in
theorem taken_cut3 (base r : Nat) (k : Int) (hk : k = 3) (vB : Value) (x : Nat) (s : ByteArray) (j : Nat) (hj : j < (enc k x s).length) (aS aF aN : Addr) (w : World) (hr : Rdr base w r ((enc k x s).take j) .nilIface) (h : Errs w aS aF aN) (hx : Hid (x < 2 ^ 64)) (hlen : (enc k x s).length ≤ 140737400000000) :
    Calls Tryd.prog 17 #[.pointer (some ⟨r, 0, none⟩), PutV k vB x s] w fun e w' => (∃ b, e = .returned (.bool b)) ∧ Rdr base w' r ((enc k x s).take j) (E aS) ∧ But2 r w w' := by
  subst hk
  have henc : enc 3 x s = le 8 x := rfl
  have hm := whole_cut 8 ((le 8 x).take j) aS (by rw [henc, le_length] at hj; simp [le_length]; omega)
  rw [henc] at hr hlen hj
  have key : ∀ u, Up w u → Calls Tryd.prog 44 #[.pointer (some ⟨r, 0, none⟩)] u fun e u' => e = .returned (.int .u64 (((0 : Nat)) : Int)) ∧ Rdr base u' r ((le 8 x).take j) (E aS) ∧ But r u u' := by
    intro u hu
    have hru := hr.up hu
    have hSu := h.short.up hu
    have hFu := h.form.up hu
    have hc := (U64_any base r _ .nilIface aS u hru (.inl rfl) hSu)
    rw [hm.1, hm.2.1, hm.2.2] at hc
    exact hc
  have Key : Hid _ := key
  have hu0 : ∀ o, Up w (w.alloc o).drew := fun o => (Up.alloc w o).trans (Up.drew _)
  have hrlt := hr.lt
  clear hm key hr h hlen hj
  go_enter Tryd.func17, Tryd.ntmps17
  go_wp2_with fail
  go_region_with (first
    | (go_at_call 44; refine (Key.out _ (hu0 _)).mono ?_; rintro e w1 ⟨rfl, h1, hb1⟩; have hbox := box_kept (i := 2) hb1 hrlt rfl; have hfin : Hid (But2 r w w1) := (But.of_up r (hu0 _)).trans hb1; clear hb1))
  all_goals (go_wp2; go_ret; exact ⟨⟨_, rfl⟩, h1, hfin.out⟩)

set_option maxHeartbeats 800000 in
theorem taken_ok4 (base r : Nat) (k : Int) (hk : k = 4) (vB : Value) (x : Nat) (s : ByteArray) (rest : List UInt8) (aS aF aN : Addr) (w : World) (hr : Rdr base w r (enc k x s ++ rest) .nilIface) (h : Errs w aS aF aN) (hx : Hid (x < 2 ^ 64)) (hn : (s.size : Int) ≤ 65535) (hlen : (enc k x s ++ rest).length ≤ 140737400000000) :
    Calls Tryd.prog 17 #[.pointer (some ⟨r, 0, none⟩), PutV k vB x s] w fun e w' => e = .returned (.bool true) ∧ Rdr base w' r rest .nilIface ∧ But2 r w w' := by
  subst hk
  have henc : enc 4 x s = le 2 s.size ++ Sb s := rfl
  have hm := text_put s (by omega) rest aS
  rw [henc] at hr hlen
  have key : ∀ u, Up w u → Calls Tryd.prog 22 #[.pointer (some ⟨r, 0, none⟩)] u fun e u' => e = .returned (.string s) ∧ Rdr base u' r rest .nilIface ∧ But r u u' := by
    intro u hu
    have hru := hr.up hu
    have hSu := h.short.up hu
    have hFu := h.form.up hu
    have hc := (Text_any base r _ .nilIface aS u hru (.inl rfl) hSu)
    rw [hm.1, hm.2.1, hm.2.2] at hc
    rw [str_eta] at hc
    exact hc
  have Key : Hid _ := key
  have hu0 : ∀ o, Up w (w.alloc o).drew := fun o => (Up.alloc w o).trans (Up.drew _)
  have hrlt := hr.lt
  clear hm key hr h hlen
  go_enter Tryd.func17, Tryd.ntmps17
  go_wp2_with fail
  go_region_with (first
    | (go_at_call 22; refine (Key.out _ (hu0 _)).mono ?_; rintro e w1 ⟨rfl, h1, hb1⟩; have hbox := box_kept (i := 3) hb1 hrlt rfl; have hfin : Hid (But2 r w w1) := (But.of_up r (hu0 _)).trans hb1; clear hb1))
  all_goals (go_wp2; go_ret; exact ⟨rfl, h1, hfin.out⟩)

set_option maxHeartbeats 800000 in
theorem taken_cut4 (base r : Nat) (k : Int) (hk : k = 4) (vB : Value) (x : Nat) (s : ByteArray) (j : Nat) (hj : j < (enc k x s).length) (aS aF aN : Addr) (w : World) (hr : Rdr base w r ((enc k x s).take j) .nilIface) (h : Errs w aS aF aN) (hx : Hid (x < 2 ^ 64)) (hn : (s.size : Int) ≤ 65535) (hlen : (enc k x s).length ≤ 140737400000000) :
    Calls Tryd.prog 17 #[.pointer (some ⟨r, 0, none⟩), PutV k vB x s] w fun e w' => (∃ b, e = .returned (.bool b)) ∧ Rdr base w' r ((enc k x s).take j) (E aS) ∧ But2 r w w' := by
  subst hk
  have henc : enc 4 x s = le 2 s.size ++ Sb s := rfl
  have hm := text_cut s (by omega) j (by rw [henc] at hj; simp only [List.length_append, le_length, Sb_len] at hj; omega) aS
  rw [henc] at hr hlen hj
  have key : ∀ u, Up w u → Calls Tryd.prog 22 #[.pointer (some ⟨r, 0, none⟩)] u fun e u' => e = .returned (.string ⟨#[]⟩) ∧ Rdr base u' r ((le 2 s.size ++ Sb s).take j) (E aS) ∧ But r u u' := by
    intro u hu
    have hru := hr.up hu
    have hSu := h.short.up hu
    have hFu := h.form.up hu
    have hc := (Text_any base r _ .nilIface aS u hru (.inl rfl) hSu)
    rw [hm.1, hm.2.1, hm.2.2] at hc
    exact hc
  have Key : Hid _ := key
  have hu0 : ∀ o, Up w (w.alloc o).drew := fun o => (Up.alloc w o).trans (Up.drew _)
  have hrlt := hr.lt
  clear hm key hr h hlen hj
  go_enter Tryd.func17, Tryd.ntmps17
  go_wp2_with fail
  go_region_with (first
    | (go_at_call 22; refine (Key.out _ (hu0 _)).mono ?_; rintro e w1 ⟨rfl, h1, hb1⟩; have hbox := box_kept (i := 3) hb1 hrlt rfl; have hfin : Hid (But2 r w w1) := (But.of_up r (hu0 _)).trans hb1; clear hb1))
  all_goals (go_wp2; go_ret; exact ⟨⟨_, rfl⟩, h1, hfin.out⟩)

set_option maxHeartbeats 800000 in
theorem taken_ok5 (base r : Nat) (k : Int) (hk : k ≠ 1 ∧ k ≠ 2 ∧ k ≠ 3 ∧ k ≠ 4) (vB : Value) (x : Nat) (s : ByteArray) (rest : List UInt8) (aS aF aN : Addr) (w : World) (hr : Rdr base w r (enc k x s ++ rest) .nilIface) (h : Errs w aS aF aN) (hx : Hid (x < 2 ^ 64)) (hlen : (enc k x s ++ rest).length ≤ 140737400000000) :
    Calls Tryd.prog 17 #[.pointer (some ⟨r, 0, none⟩), PutV k vB x s] w fun e w' => e = .returned (.bool true) ∧ Rdr base w' r rest .nilIface ∧ But2 r w w' := by
  obtain ⟨k1, k2, k3, k4⟩ := hk
  have henc : enc k x s = vn x := by simp [enc, k1, k2, k3, k4]
  have g1 : (k == 1) = false := by simp; omega
  have g2 : (k == 2) = false := by simp; omega
  have g3 : (k == 3) = false := by simp; omega
  have g4 : (k == 4) = false := by simp; omega
  clear k1 k2 k3 k4
  have hm := num_put aS aF x hx.out rest
  rw [henc] at hr hlen
  have key : ∀ u, Up w u → Calls Tryd.prog 23 #[.pointer (some ⟨r, 0, none⟩)] u fun e u' => e = .returned (.int .u64 ((x : Nat) : Int)) ∧ Rdr base u' r rest .nilIface ∧ But r u u' := by
    intro u hu
    have hru := hr.up hu
    have hSu := h.short.up hu
    have hFu := h.form.up hu
    have hc := (Number_any base r _ .nilIface aS aF u hru (.inl rfl) hSu hFu (by omega))
    rw [hm.1, hm.2.1, hm.2.2] at hc
    exact hc
  have Key : Hid _ := key
  have hu0 : ∀ o, Up w (w.alloc o).drew := fun o => (Up.alloc w o).trans (Up.drew _)
  have hrlt := hr.lt
  clear hm key hr h hlen
  go_enter Tryd.func17, Tryd.ntmps17
  go_wp2_with fail
  go_region_with (first
    | (go_at_call 23; refine (Key.out _ (hu0 _)).mono ?_; rintro e w1 ⟨rfl, h1, hb1⟩; have hbox := box_kept (i := 2) hb1 hrlt rfl; have hfin : Hid (But2 r w w1) := (But.of_up r (hu0 _)).trans hb1; clear hb1))
  all_goals (go_wp2; go_ret; exact ⟨rfl, h1, hfin.out⟩)

set_option maxHeartbeats 800000 in
theorem taken_cut5 (base r : Nat) (k : Int) (hk : k ≠ 1 ∧ k ≠ 2 ∧ k ≠ 3 ∧ k ≠ 4) (vB : Value) (x : Nat) (s : ByteArray) (j : Nat) (hj : j < (enc k x s).length) (aS aF aN : Addr) (w : World) (hr : Rdr base w r ((enc k x s).take j) .nilIface) (h : Errs w aS aF aN) (hx : Hid (x < 2 ^ 64)) (hlen : (enc k x s).length ≤ 140737400000000) :
    Calls Tryd.prog 17 #[.pointer (some ⟨r, 0, none⟩), PutV k vB x s] w fun e w' => (∃ b, e = .returned (.bool b)) ∧ Rdr base w' r ((enc k x s).take j) (E aS) ∧ But2 r w w' := by
  obtain ⟨k1, k2, k3, k4⟩ := hk
  have henc : enc k x s = vn x := by simp [enc, k1, k2, k3, k4]
  have g1 : (k == 1) = false := by simp; omega
  have g2 : (k == 2) = false := by simp; omega
  have g3 : (k == 3) = false := by simp; omega
  have g4 : (k == 4) = false := by simp; omega
  clear k1 k2 k3 k4
  have hm := num_cut aS aF x hx.out j (by rw [henc] at hj; exact hj)
  rw [henc] at hr hlen hj
  have key : ∀ u, Up w u → Calls Tryd.prog 23 #[.pointer (some ⟨r, 0, none⟩)] u fun e u' => e = .returned (.int .u64 ((0 : Nat) : Int)) ∧ Rdr base u' r ((vn x).take j) (E aS) ∧ But r u u' := by
    intro u hu
    have hru := hr.up hu
    have hSu := h.short.up hu
    have hFu := h.form.up hu
    have hc := (Number_any base r _ .nilIface aS aF u hru (.inl rfl) hSu hFu (by have := List.length_take_le j (vn x); simp only [List.length_take]; omega))
    rw [hm.1, hm.2.1, hm.2.2] at hc
    exact hc
  have Key : Hid _ := key
  have hu0 : ∀ o, Up w (w.alloc o).drew := fun o => (Up.alloc w o).trans (Up.drew _)
  have hrlt := hr.lt
  clear hm key hr h hlen hj
  go_enter Tryd.func17, Tryd.ntmps17
  go_wp2_with fail
  go_region_with (first
    | (go_at_call 23; refine (Key.out _ (hu0 _)).mono ?_; rintro e w1 ⟨rfl, h1, hb1⟩; have hbox := box_kept (i := 2) hb1 hrlt rfl; have hfin : Hid (But2 r w w1) := (But.of_up r (hu0 _)).trans hb1; clear hb1))
  all_goals (go_wp2; go_ret; exact ⟨⟨_, rfl⟩, (by rw [henc]; exact h1), hfin.out⟩)

theorem taken_ok (base r : Nat) (k : Int) (vB : Value) (x : Nat) (s : ByteArray) (rest : List UInt8) (aS aF aN : Addr) (w : World) (hr : Rdr base w r (enc k x s ++ rest) .nilIface) (h : Errs w aS aF aN) (hx : Hid (x < 2 ^ 64)) (hn : k = 4 → (s.size : Int) ≤ 65535) (hlen : (enc k x s ++ rest).length ≤ 140737400000000) :
    Calls Tryd.prog 17 #[.pointer (some ⟨r, 0, none⟩), PutV k vB x s] w fun e w' => e = .returned (.bool true) ∧ Rdr base w' r rest .nilIface ∧ But2 r w w' := by
  by_cases h1 : k = 1
  · exact taken_ok1 base r k h1 vB x s rest aS aF aN w hr h hx hlen
  by_cases h2 : k = 2
  · exact taken_ok2 base r k h2 vB x s rest aS aF aN w hr h hx hlen
  by_cases h3 : k = 3
  · exact taken_ok3 base r k h3 vB x s rest aS aF aN w hr h hx hlen
  by_cases h4 : k = 4
  · exact taken_ok4 base r k h4 vB x s rest aS aF aN w hr h hx (hn h4) hlen
  · exact taken_ok5 base r k ⟨h1, h2, h3, h4⟩ vB x s rest aS aF aN w hr h hx hlen
theorem taken_cut (base r : Nat) (k : Int) (vB : Value) (x : Nat) (s : ByteArray) (j : Nat) (hj : j < (enc k x s).length) (aS aF aN : Addr) (w : World) (hr : Rdr base w r ((enc k x s).take j) .nilIface) (h : Errs w aS aF aN) (hx : Hid (x < 2 ^ 64)) (hn : k = 4 → (s.size : Int) ≤ 65535) (hlen : (enc k x s).length ≤ 140737400000000) :
    Calls Tryd.prog 17 #[.pointer (some ⟨r, 0, none⟩), PutV k vB x s] w fun e w' => (∃ b, e = .returned (.bool b)) ∧ Rdr base w' r ((enc k x s).take j) (E aS) ∧ But2 r w w' := by
  by_cases h1 : k = 1
  · exact taken_cut1 base r k h1 vB x s j hj aS aF aN w hr h hx hlen
  by_cases h2 : k = 2
  · exact taken_cut2 base r k h2 vB x s j hj aS aF aN w hr h hx hlen
  by_cases h3 : k = 3
  · exact taken_cut3 base r k h3 vB x s j hj aS aF aN w hr h hx hlen
  by_cases h4 : k = 4
  · exact taken_cut4 base r k h4 vB x s j hj aS aF aN w hr h hx (hn h4) hlen
  · exact taken_cut5 base r k ⟨h1, h2, h3, h4⟩ vB x s j hj aS aF aN w hr h hx hlen
end Go.Proofs.YtpjpjoefmnnpmaaDoor

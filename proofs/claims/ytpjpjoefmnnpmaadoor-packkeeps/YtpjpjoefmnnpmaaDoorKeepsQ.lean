/- For the law PackKeeps: what a round keeps in memory. -/
import Derived.Test.YtpjpjoefmnnpmaaDoorKeepsR
import Derived.Laws.BitsAllLaws
import Derived.Laws.OwnMore
import Derived.Laws.MakeOwn
import Derived.BigQuiet
set_option linter.unusedVariables false
namespace Go.Proofs.YtpjpjoefmnnpmaaDoor
open Go Go.RowKit

/-! The bytes of full: filled, then turned. -/
def fullF (pb : List UInt8) : List UInt8 := pb ++ List.replicate 20 0x5a
theorem fullF_length (pb : List UInt8) : (fullF pb).length = pb.length + 20 := by simp [fullF]
def fillF (pb : List UInt8) (t : Nat) : List UInt8 := (fullF pb).take t ++ List.replicate (pb.length + 20 - t) 0
theorem fillF_length (pb : List UInt8) (t : Nat) (ht : t ≤ pb.length + 20) : (fillF pb t).length = pb.length + 20 := by
  simp [fillF, fullF_length]; omega
theorem fillF_zero (pb : List UInt8) : fillF pb 0 = List.replicate (pb.length + 20) 0 := by simp [fillF]
theorem fillF_done (pb : List UInt8) : fillF pb (pb.length + 20) = fullF pb := by
  unfold fillF
  rw [List.take_of_length_le (by rw [fullF_length]; omega)]; simp
theorem fillF_next (pb : List UInt8) (t : Nat) (ht : t < (fullF pb).length) : (fillF pb t).set t (fullF pb)[t] = fillF pb (t + 1) := by
  have hl := fullF_length pb
  unfold fillF
  rw [List.set_append_right _ _ (by simp; omega)]
  simp only [List.length_take, Nat.min_eq_left (Nat.le_of_lt ht), Nat.sub_self]
  rw [show pb.length + 20 - t = (pb.length + 20 - (t + 1)) + 1 by omega, List.replicate_succ, List.set_cons_zero, List.take_succ_eq_append_getElem ht, List.append_assoc]
  rfl
theorem fullF_head (pb : List UInt8) (t : Nat) (ht : t < pb.length) (h : t < (fullF pb).length) : (fullF pb)[t] = pb[t] := by
  show (pb ++ List.replicate 20 0x5a)[t]'(by simpa [fullF] using h) = pb[t]
  rw [List.getElem_append_left ht]
theorem fullF_tail (pb : List UInt8) (t : Nat) (ht : pb.length ≤ t) (h : t < (fullF pb).length) : (fullF pb)[t] = 0x5a := by
  show (pb ++ List.replicate 20 0x5a)[t]'(by simpa [fullF] using h) = 0x5a
  rw [List.getElem_append_right ht, List.getElem_replicate]
def xf (c : UInt8) : UInt8 := c ^^^ 0xff
def turnF (pb : List UInt8) (t : Nat) : List UInt8 := ((fullF pb).take t).map xf ++ (fullF pb).drop t
theorem turnF_zero (pb : List UInt8) : turnF pb 0 = fullF pb := by simp [turnF]
theorem turnF_length (pb : List UInt8) (t : Nat) (ht : t ≤ pb.length + 20) : (turnF pb t).length = pb.length + 20 := by
  simp [turnF, fullF_length]; omega
theorem turnF_get (pb : List UInt8) (t : Nat) (ht : t < (fullF pb).length) : (turnF pb t)[t]? = some (fullF pb)[t] := by
  unfold turnF
  rw [List.getElem?_append_right (by simp; omega)]
  simp only [List.length_map, List.length_take, Nat.min_eq_left (Nat.le_of_lt ht), Nat.sub_self]
  rw [List.drop_eq_getElem_cons ht]; rfl
theorem turnF_next (pb : List UInt8) (t : Nat) (ht : t < (fullF pb).length) : (turnF pb t).set t (xf (fullF pb)[t]) = turnF pb (t + 1) := by
  unfold turnF
  rw [List.set_append_right _ _ (by simp; omega)]
  simp only [List.length_map, List.length_take, Nat.min_eq_left (Nat.le_of_lt ht), Nat.sub_self]
  rw [List.drop_eq_getElem_cons ht, List.set_cons_zero, List.take_succ_eq_append_getElem ht, List.map_append]
  simp
theorem xf_u8 (c : UInt8) : bits .xor .u8 (c.toNat : Int) 255 = ((xf c).toNat : Int) := by
  have := u8_xor_nat c.toNat 255 c.toNat_lt (by omega)
  rw [show ((255 : Nat) : Int) = 255 from rfl] at this
  rw [this]
  unfold xf
  rw [UInt8.toNat_xor]; rfl

/-- While full is filled: the box of the Put, and full. -/
structure Rn0 (W0 w : World) (bx g : Nat) (bc : Array Value) (m : Nat) (F : List UInt8) : Prop where
  full : Own w 5 W0.heap.size (.slice (some ⟨g, 0, none⟩) m m) F
  box : w.heap[bx]? = some (.cells bc 28 (0, 0))
  up : Up W0 w
  ne : bx ≠ g
  lo : W0.heap.size ≤ g
theorem Rn0.grow {W0 w w' : World} {bx g m : Nat} {bc : Array Value} {F : List UInt8} (h : Rn0 W0 w bx g bc m F) (hu : Up w w') : Rn0 W0 w' bx g bc m F :=
  ⟨ownsRow_up h.full hu, by rw [hu.block _ (Array.getElem?_eq_some_iff.1 h.box).1]; exact h.box, h.up.trans hu, h.ne, h.lo⟩
theorem Rn0.set {W0 w : World} {bx g m : Nat} {bc : Array Value} {F : List UInt8} (h : Rn0 W0 w bx g bc m F) (t : Nat) (ht : t < F.length) (c : UInt8) : Rn0 W0 (w.setCell ⟨g, t, none⟩ (B c)) bx g bc m (F.set t c) :=
  ⟨h.full.set t ht c, by rw [(But.setCell w g t (B c)).block _ (Array.getElem?_eq_some_iff.1 h.box).1 (by intro e; exact h.ne (Option.some.inj e))]; exact h.box, Below.setCell h.up h.lo _, h.ne, h.lo⟩
theorem Rn0.at {W0 w : World} {bx g m : Nat} {bc : Array Value} {F : List UInt8} (h : Rn0 W0 w bx g bc m F) (t : Nat) (ht : t < F.length) : w.cell? ⟨g, t, none⟩ = some (B F[t]) ∧ w.frozen? ⟨g, t, none⟩ = false := by
  refine ⟨?_, h.full.not_frozen⟩
  have := h.full.at t ht
  rwa [Nat.zero_add] at this
theorem box_cell {w : World} {bx : Nat} {bc : Array Value} {t : TypeId} (h : w.heap[bx]? = some (.cells bc t (0, 0))) (i : Nat) (v : Value) (hv : bc[i]? = some v) : w.cell? ⟨bx, i, none⟩ = some v := by
  rw [cell_of_row _ _ _ _ _ _ h]; exact hv

/-- Behind the two calls and the reader: the box, full, the two answers, the reader. -/
structure Rnd (W0 w : World) (bx g r Br : Nat) (bc : Array Value) (m : Nat) (vc vd : Value) (C F rest : List UInt8) : Prop where
  r0 : Rn0 W0 w bx g bc m F
  c : Own w 5 W0.heap.size vc C
  d : Own w 5 W0.heap.size vd C
  rd : Rdr Br w r rest .nilIface
  gr : g < Br
  rb : Br ≤ r
  br : bx ≠ r
  nc : ∀ q, vc.ownBlock = some q → q ≠ g ∧ q < Br
  nd : ∀ q, vd.ownBlock = some q → q ≠ g ∧ q < Br
  cd : ∀ q, vc.ownBlock = some q → vd.ownBlock ≠ some q
theorem Rnd.grow {W0 w w' : World} {bx g r Br m : Nat} {bc : Array Value} {vc vd : Value} {C F rest : List UInt8} (h : Rnd W0 w bx g r Br bc m vc vd C F rest) (hu : Up w w') : Rnd W0 w' bx g r Br bc m vc vd C F rest :=
  ⟨h.r0.grow hu, ownsRow_up h.c hu, ownsRow_up h.d hu, h.rd.up hu, h.gr, h.rb, h.br, h.nc, h.nd, h.cd⟩
theorem sl_higher {base : Nat} {w w' : World} {v : Value} {bs : List UInt8} {g : Nat} (h : Sl base w v bs) (hb : But g w w') (hg : g < base) : Sl base w' v bs := by
  obtain ⟨ao, cap, rfl, hc, hn, hx⟩ := h
  refine ⟨ao, cap, rfl, hc, hn, fun hne => ?_⟩
  obtain ⟨b, o, rfl, hbb, ha⟩ := hx hne
  exact ⟨b, o, rfl, hbb, ha.but hb (by omega)⟩
theorem Rnd.set {W0 w : World} {bx g r Br m : Nat} {bc : Array Value} {vc vd : Value} {C F rest : List UInt8} (h : Rnd W0 w bx g r Br bc m vc vd C F rest) (t : Nat) (ht : t < F.length) (x : UInt8) :
    Rnd W0 (w.setCell ⟨g, t, none⟩ (B x)) bx g r Br bc m vc vd C (F.set t x) rest := by
  have hb := But.setCell w g t (B x)
  obtain ⟨h0, h1, h2, ⟨v, h3, h3'⟩, h4, h5, h6, h7, h8, h9⟩ := h
  refine ⟨h0.set t ht x, ownsRow_but h1 hb (fun e => (h7 g e).1 rfl), ownsRow_but h2 hb (fun e => (h8 g e).1 rfl), ⟨v, ?_, sl_higher h3' hb h4⟩, h4, h5, h6, h7, h8, h9⟩
  rw [hb.block _ (Array.getElem?_eq_some_iff.1 h3).1 (by intro e; have := Option.some.inj e; omega)]; exact h3
theorem Rnd.read {W0 w w' : World} {bx g r Br m : Nat} {bc : Array Value} {vc vd : Value} {C F rest rest' : List UInt8} (h : Rnd W0 w bx g r Br bc m vc vd C F rest) (hr : Rdr Br w' r rest' .nilIface) (hb : But r w w') (hlo : W0.heap.size ≤ r) :
    Rnd W0 w' bx g r Br bc m vc vd C F rest' := by
  obtain ⟨⟨a1, a2, a3, a4, a5⟩, h1, h2, h3, h4, h5, h6, h7, h8, h9⟩ := h
  refine ⟨⟨ownsRow_but a1 hb (by intro e; simp [Value.ownBlock] at e; omega), ?_, Below.trans a3 (hb.below hlo a3.size), a4, a5⟩, ownsRow_but h1 hb (fun e => by have := (h7 r e).2; omega), ownsRow_but h2 hb (fun e => by have := (h8 r e).2; omega), hr, h4, h5, h6, h7, h8, h9⟩
  rw [hb.block _ (Array.getElem?_eq_some_iff.1 a2).1 (by intro e; exact h6 (Option.some.inj e))]; exact a2

/-- What called answers, the same at every place: the fault fe, the bytes C. -/
def CallU (w0 : World) (p : Value) (pb C : List UInt8) (fe : Value) : Prop :=
  ∀ (vb : Value) (w : World), Up w0 w → Sl 0 w vb pb → Calls Tryd.prog 29 #[p, vb] w fun e w' => ∃ v', e = .returned (.tuple #[v', fe]) ∧ Own w' 5 w.heap.size v' C ∧ Up w w'
theorem callU_ok (w0 : World) (k : Int) (vB : Value) (pb : List UInt8) (x : Nat) (s : ByteArray) (hl : pb.length ≤ 140737488351232) (hx : x < 2 ^ 64) (hn : k = 4 → (s.size : Int) ≤ 65535) : CallU w0 (PutV k vB x s) pb (pb ++ enc k x s) .nilIface :=
  fun vb w _ hs => calledW_any k vB vb pb x s w hs hl hx hn
theorem callU_long (w0 : World) (vB : Value) (pb : List UInt8) (x : Nat) (s : ByteArray) (a : Addr) (hg : Gl w0 3 a) (hn : (65535 : Int) < (s.size : Int)) : CallU w0 (PutV 4 vB x s) pb [] (E a) :=
  fun vb w hu _ => (called_long vB vb x s a w (hg.up hu) hn).mono fun e w' ⟨h1, h2⟩ => ⟨_, h1, Own.nil _ _ _, h2⟩

theorem make_u8 (n : Nat) (hn : n ≤ 140737488355328) (u : World) : (Instr.makeSlice 25 (.int .i64 (n : Int)) (.int .i64 (n : Int))).run Tryd.prog u =
    .ok (.slice (some ⟨u.heap.size, 0, none⟩) n n) (u.alloc (.cells (madeCells #[.int .u8 0] n) 5)) := by
  obtain ⟨i0, hi, hz0, hz1, hz2⟩ := info_parts Tryd.infoU8
  have h := run_make (P := Tryd.prog) u 25 5 i0 (.int .u8 0) Tryd.underlying25 hi hz0 .i64 .i64 (n : Int) (n : Int) (by omega) (by omega) (by rw [hz2]; omega) (by omega)
  simpa [hz1, Value.cells] using h
theorem own_made (n : Nat) (hn : n ≤ 140737488355327) (w : World) : Own (w.alloc (.cells (madeCells #[.int .u8 0] n) 5)) 5 w.heap.size (.slice (some ⟨w.heap.size, 0, none⟩) n n) (List.replicate n 0) := by
  refine ⟨by simp, .inr ⟨w.heap.size, n, _, by simp, Nat.le_refl _, heap_alloc_new _ _, by simp, by unfold maxLen; omega, by simp [size_madeCells], ?_⟩⟩
  rw [toList_madeCells_one, List.take_replicate]
  simp [Bv]
theorem Rn0.start (W0 : World) (bc : Array Value) (m : Nat) (pb : List UInt8) (hm : m = pb.length) (hb : m + 20 ≤ 140737488355327) :
    Rn0 W0 ((W0.alloc (.cells bc 28)).alloc (.cells (madeCells #[.int .u8 0] (m + 20)) 5)) W0.heap.size (W0.heap.size + 1) bc (m + 20) (fillF pb 0) := by
  have n1 : (W0.alloc (.cells bc 28)).heap.size = W0.heap.size + 1 := by simp
  have ho := own_made (m + 20) hb (W0.alloc (.cells bc 28))
  rw [n1] at ho
  refine ⟨?_, ?_, (Up.alloc _ _).trans (Up.alloc _ _), by omega, by omega⟩
  · rw [fillF_zero, ← hm]; exact own_low ho (by omega)
  · rw [heap_alloc_old _ _ (by omega)]; exact heap_alloc_new _ _
theorem slice_head (u : World) (g n cap h : Nat) (hn : h ≤ n) (hc : n ≤ cap) (h0 : 0 < cap) :
    (Instr.slice 25 (.slice (some ⟨g, 0, none⟩) n cap) none (some (.int .i64 (h : Int))) none).run Tryd.prog u = .ok (.slice (some ⟨g, 0, none⟩) h cap) u := by
  have hu : Tryd.prog.underlying 25 = some (.slice (Tryd.prog.elem 25)) := by rw [elem_bytes]; exact Tryd.underlying25
  rw [run_slice_h u 25 _ _ cap hu .i64 _ (by omega) (by omega), elem_bytes, size_u8]
  have : ¬ cap = 0 := by omega
  simp [Result.andThen, sliced, this, Addr.add_lit]
/-- full's head reads as the bytes. -/
theorem Rn0.head {W0 w : World} {bx g m : Nat} {bc : Array Value} {pb : List UInt8} (h : Rn0 W0 w bx g bc (m + 20) (fullF pb)) (hm : m = pb.length) : Sl 0 w (.slice (some ⟨g, 0, none⟩) m (m + 20)) pb := by
  subst hm
  refine ⟨_, _, rfl, by omega, (by intro e; cases e), fun _ => ⟨g, 0, rfl, Nat.zero_le _, fun i hi => ?_⟩⟩
  have hf : i < (fullF pb).length := by rw [fullF_length]; omega
  have := (h.at i hf).1
  rw [fullF_head pb i hi hf] at this
  rwa [Nat.zero_add]
theorem u8_cons (c : UInt8) (rest : List UInt8) : wholeA 1 (c :: rest) .nilIface = c.toNat ∧ wholeL 1 (c :: rest) .nilIface = rest ∧ ∀ a, wholeF a 1 (c :: rest) .nilIface = .nilIface := by
  refine ⟨?_, ?_, fun a => ?_⟩
  · simp [wholeA, unle]
  · simp [wholeL]
  · simp [wholeF]
theorem u8_next (pb : List UInt8) (t : Nat) (h : t < pb.length) : wholeA 1 (pb.drop t) .nilIface = (pb[t]).toNat ∧ wholeL 1 (pb.drop t) .nilIface = pb.drop (t + 1) ∧ ∀ a, wholeF a 1 (pb.drop t) .nilIface = .nilIface := by
  have hd : pb.drop t = pb[t] :: pb.drop (t + 1) := List.drop_eq_getElem_cons h
  rw [hd]
  exact u8_cons _ _
theorem Up.drewQ (w : World) (n : Nat) : Up w (w.drewN n) := below_drewN (Up.refl w) n
end Go.Proofs.YtpjpjoefmnnpmaaDoor

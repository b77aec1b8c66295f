/- image: the calls of the decoder that take an entry, or give up (laid by genTake.py). Own work. -/
import Derived.Test.YtooclofdljampaaDoorImNum
import Derived.Test.YtooclofdljampaaDoorStRow
import Derived.Deep.LoopGhost
import Derived.Deep.DeepCutAuto
import Derived.BigQuiet
import Derived.Deep.QuietTactic
set_option linter.unusedVariables false
set_option linter.unusedSimpArgs false
namespace Go.Proofs.YtooclofdljampaaDoor
open Go Go.RowKit

/-- The decoder gives up with the error a. -/
abbrev Pan (a : Addr) : Ending := .panicked [{ v := .iface 66 (.agg #[E a]), recovered := false }]
theorem giveUp_any (a : Addr) (w : World) : Calls Tryd.prog 48 #[E a] w fun e w' => e = Pan a ∧ w' = w := by
  go_enter Tryd.func48, Tryd.ntmps48
  go_wp2
  exact ⟨rfl, rfl, rfl⟩
theorem needWhole_ok {B : Nat} {w : World} {r : Nat} {aS aF : Addr} {bs : List UInt8} (h : RdS B w r aS aF (some bs)) :
    Calls Tryd.prog 64 #[.pointer (some ⟨r, 0, none⟩)] w fun e w' => e = .returned (.tuple #[]) ∧ w' = w := by
  have hE := Err_S h
  rw [if_neg (by simp)] at hE
  go_enter Tryd.func64, Tryd.ntmps64
  go_wp2_with fail
  refine hE.mono ?_
  rintro e w1 ⟨rfl, rfl⟩
  go_wp2
  first | (go_ret; exact ⟨rfl, rfl⟩) | exact bodyPost_end (results_none rfl _ _ _) rfl ⟨rfl, rfl⟩
theorem needWhole_no {B : Nat} {w : World} {r : Nat} {aS aF : Addr} (h : RdS B w r aS aF none) :
    Calls Tryd.prog 64 #[.pointer (some ⟨r, 0, none⟩)] w fun e w' => e = Pan aS ∧ w' = w := by
  have hE := Err_S h
  rw [if_pos rfl] at hE
  go_enter Tryd.func64, Tryd.ntmps64
  go_wp2_with fail
  refine hE.mono ?_
  rintro e w1 ⟨rfl, rfl⟩
  go_wp2_with fail
  refine (giveUp_any aS _).mono ?_
  rintro e w1 ⟨rfl, rfl⟩
  exact ⟨rfl, rfl, rfl⟩

theorem RdS.setI {B : Nat} {w : World} {r : Nat} {aS aF : Addr} {st : Option (List UInt8)} (h : RdS B w r aS aF st) {k : Nat} (hk : B ≤ k) (i : Nat) (v : Value) : RdS B (w.setCell ⟨k, i, none⟩ v) r aS aF st :=
  h.below ((Below.refl B w).setCell hk v)
theorem But.setI {r k : Nat} {w w4 : World} (h : But r w w4) (hk : w.heap.size ≤ k) (i : Nat) (v : Value) : But r w (w4.setCell ⟨k, i, none⟩ v) := by
  refine ⟨h.os, h.tape, h.output, Nat.le_trans h.size (by simp), fun g hg hne => ?_⟩
  rw [heap_setCell_other _ ⟨k, i, none⟩ _ _ (show g ≠ k by omega)]
  exact h.block g hg hne
/-- What takeEntry keeps: the reader, other memory, the two boxes of an entry. -/
structure Tk (B : Nat) (w0 w : World) (r : Nat) (aS aF : Addr) (st : Option (List UInt8)) (k : Nat) (cs : Array Value) : Prop where
  rd : RdS B w r aS aF st
  but : But r w0 w
  out : ∃ q : Array Value, q.size = 9 ∧ Box w w0.heap.size q
  bx : Box w k cs
  lk : w0.heap.size < k
  lr : r < w0.heap.size
  lb : B ≤ w0.heap.size
theorem Tk.read {B : Nat} {w0 w w' : World} {r : Nat} {aS aF : Addr} {st st' : Option (List UInt8)} {k : Nat} {cs : Array Value} (h : Tk B w0 w r aS aF st k cs) (hr : RdS B w' r aS aF st') (hb : But r w w') : Tk B w0 w' r aS aF st' k cs := by
  obtain ⟨q, hq, ho⟩ := h.out
  exact ⟨hr, h.but.trans hb, ⟨q, hq, ho.but hb (by have := h.lr; omega)⟩, h.bx.but hb (by have := h.lk; have := h.lr; omega), h.lk, h.lr, h.lb⟩
theorem Tk.set {B : Nat} {w0 w : World} {r : Nat} {aS aF : Addr} {st : Option (List UInt8)} {k : Nat} {cs : Array Value} (h : Tk B w0 w r aS aF st k cs) (i : Nat) (v : Value) : Tk B w0 (w.setCell ⟨k, i, none⟩ v) r aS aF st k (cs.setIfInBounds i v) := by
  obtain ⟨q, hq, ho⟩ := h.out
  have := h.lk
  have := h.lb
  exact ⟨h.rd.setI (by omega) i v, h.but.setI (by omega) i v, ⟨q, hq, ho.other (by omega) i v⟩, h.bx.set i v, h.lk, h.lr, h.lb⟩
theorem Tk.fin {B : Nat} {w0 w : World} {r : Nat} {aS aF : Addr} {st : Option (List UInt8)} {k : Nat} {cs : Array Value} (h : Tk B w0 w r aS aF st k cs) (a0 a1 a2 a3 a4 a5 a6 a7 a8 : Value) :
    ∃ w', w' = ((((((((w.setCell ⟨w0.heap.size, 0, none⟩ a0).setCell ⟨w0.heap.size, 1, none⟩ a1).setCell ⟨w0.heap.size, 2, none⟩ a2).setCell ⟨w0.heap.size, 3, none⟩ a3).setCell ⟨w0.heap.size, 4, none⟩ a4).setCell ⟨w0.heap.size, 5, none⟩ a5).setCell ⟨w0.heap.size, 6, none⟩ a6).setCell ⟨w0.heap.size, 7, none⟩ a7).setCell ⟨w0.heap.size, 8, none⟩ a8 ∧
      RdS B w' r aS aF st ∧ But r w0 w' ∧ Box w' w0.heap.size #[a0, a1, a2, a3, a4, a5, a6, a7, a8] := by
  refine ⟨_, rfl, ?_, ?_, ?_⟩
  · have := h.lb
    exact ((((((((h.rd.setI this 0 a0).setI this 1 a1).setI this 2 a2).setI this 3 a3).setI this 4 a4).setI this 5 a5).setI this 6 a6).setI this 7 a7).setI this 8 a8
  · have := Nat.le_refl w0.heap.size
    exact ((((((((h.but.setI this 0 a0).setI this 1 a1).setI this 2 a2).setI this 3 a3).setI this 4 a4).setI this 5 a5).setI this 6 a6).setI this 7 a7).setI this 8 a8
  · obtain ⟨q, hq, ho⟩ := h.out
    obtain ⟨L⟩ := q
    match L, hq with
    | [_, _, _, _, _, _, _, _, _], _ => exact ho.set9 _ _ _ _ _ _ _ _ _
theorem Tk.oc {B : Nat} {w0 w : World} {r : Nat} {aS aF : Addr} {st : Option (List UInt8)} {k : Nat} {cs : Array Value} (h : Tk B w0 w r aS aF st k cs) :
    ∃ p0 p1 p2 p3 p4 p5 p6 p7 p8, Box w w0.heap.size #[p0, p1, p2, p3, p4, p5, p6, p7, p8] := by
  obtain ⟨q, hq, ho⟩ := h.out
  obtain ⟨L⟩ := q
  match L, hq with
  | [p0, p1, p2, p3, p4, p5, p6, p7, p8], _ => exact ⟨p0, p1, p2, p3, p4, p5, p6, p7, p8, ho⟩
abbrev ZE : Array Value := #[.string ⟨#[]⟩, .int .i64 0, V 0, V 0, V 0, V 0, V 0, V 0, V 0]
theorem Tk.start {B : Nat} {w w1 : World} {r : Nat} {aS aF : Addr} {st st' : Option (List UInt8)} (cs : Array Value) (hr : RdS B w1 r aS aF st) (hb : But r (w.alloc (.cells ZE 50)) w1) (h0 : RdS B w r aS aF st') :
    Tk B w (w1.alloc (.cells cs 50)) r aS aF st w1.heap.size cs := by
  have u := Up.alloc w1 (.cells cs 50)
  have b0 : Box (w.alloc (.cells ZE 50)) w.heap.size ZE := Box.new _ _ _
  have hlt : r < w.heap.size := Nat.lt_of_lt_of_le h0.lt h0.sz
  have hz := hb.size
  simp only [World.size_alloc] at hz
  exact ⟨hr.below (u.mono hr.sz), ((But.of_up r (Up.alloc w _)).trans hb).trans (But.of_up r u), ⟨ZE, rfl, (b0.but hb (by omega)).up u⟩, Box.new _ _ _, by omega, hlt, h0.sz⟩

set_option maxRecDepth 20000 in
set_option maxHeartbeats 3200000 in
theorem takeEntry_short {B : Nat} {w : World} {r : Nat} {aS aF : Addr} {st s1 : Option (List UInt8)} {key : List UInt8} {k : Nat} (h : RdS B w r aS aF st) (e1 : rdTA st = (key, s1)) (e2 : rdA 1 s1 = (k, none)) :
    Calls Tryd.prog 49 #[.pointer (some ⟨r, 0, none⟩)] w fun e w' => e = Pan aS ∧ But r w w' := by
  have hb : (k : Int) ≤ 255 := by have := rdA_lt 1 s1; rw [e2] at this; simp only at this; omega
  have k1 : ∀ u, RdS B u r aS aF st → Calls Tryd.prog 62 #[.pointer (some ⟨r, 0, none⟩)] u fun e w' => e = .returned (.string ⟨key.toArray⟩) ∧ RdS B w' r aS aF s1 ∧ But r u w' := fun u hu => by
    have := Text_S hu; rw [e1] at this; exact this
  have k2 : ∀ u, RdS B u r aS aF s1 → Calls Tryd.prog 63 #[.pointer (some ⟨r, 0, none⟩)] u fun e w' => e = .returned (.int .u8 (k : Nat)) ∧ RdS B w' r aS aF none ∧ But r u w' := fun u hu => by
    have := U8_S hu; rw [e2] at this; exact this
  clear e1 e2
  go_enter Tryd.func49, Tryd.ntmps49
  have hA : RdS B (w.alloc (.cells ZE 50)) r aS aF st := h.below ((Up.alloc _ _).mono h.sz)
  go_wp2_with fail
  refine (k1 _ hA).mono ?_
  rintro e w1 ⟨rfl, h1, g1⟩
  have T1 := Tk.start #[.string ⟨key.toArray⟩, .int .i64 0, V 0, V 0, V 0, V 0, V 0, V 0, V 0] h1 g1 h
  clear h1 g1 hA k1
  go_wp2_with fail
  refine (k2 _ T1.rd).mono ?_
  rintro e w2 ⟨rfl, h2, g2⟩
  have T2 := T1.read h2 g2
  clear h2 g2 T1
  go_wp2_with fail
  refine (needWhole_no T2.rd).mono ?_
  rintro e w3 ⟨rfl, rfl⟩
  exact ⟨rfl, rfl, T2.but⟩

set_option maxRecDepth 20000 in
set_option maxHeartbeats 3200000 in
theorem takeEntry_form {B : Nat} {w : World} {r : Nat} {aS aF : Addr} {st s1 : Option (List UInt8)} {key : List UInt8} {k : Nat} {b2 : List UInt8} (h : RdS B w r aS aF st) (e1 : rdTA st = (key, s1)) (e2 : rdA 1 s1 = (k, some b2)) (n1 : ((k : Int) == 1) = false) (n2 : ((k : Int) == 2) = false) :
    Calls Tryd.prog 49 #[.pointer (some ⟨r, 0, none⟩)] w fun e w' => e = Pan aF ∧ But r w w' := by
  have hb : (k : Int) ≤ 255 := by have := rdA_lt 1 s1; rw [e2] at this; simp only at this; omega
  have k1 : ∀ u, RdS B u r aS aF st → Calls Tryd.prog 62 #[.pointer (some ⟨r, 0, none⟩)] u fun e w' => e = .returned (.string ⟨key.toArray⟩) ∧ RdS B w' r aS aF s1 ∧ But r u w' := fun u hu => by
    have := Text_S hu; rw [e1] at this; exact this
  have k2 : ∀ u, RdS B u r aS aF s1 → Calls Tryd.prog 63 #[.pointer (some ⟨r, 0, none⟩)] u fun e w' => e = .returned (.int .u8 (k : Nat)) ∧ RdS B w' r aS aF (some b2) ∧ But r u w' := fun u hu => by
    have := U8_S hu; rw [e2] at this; exact this
  clear e1 e2
  go_enter Tryd.func49, Tryd.ntmps49
  have hA : RdS B (w.alloc (.cells ZE 50)) r aS aF st := h.below ((Up.alloc _ _).mono h.sz)
  go_wp2_with fail
  refine (k1 _ hA).mono ?_
  rintro e w1 ⟨rfl, h1, g1⟩
  have T1 := Tk.start #[.string ⟨key.toArray⟩, .int .i64 0, V 0, V 0, V 0, V 0, V 0, V 0, V 0] h1 g1 h
  clear h1 g1 hA k1
  go_wp2_with fail
  refine (k2 _ T1.rd).mono ?_
  rintro e w2 ⟨rfl, h2, g2⟩
  have T2 := T1.read h2 g2
  clear h2 g2 T1
  go_wp2_with fail
  refine (needWhole_ok T2.rd).mono ?_
  rintro e w3 ⟨rfl, rfl⟩
  have cF := T2.rd.gf.cell
  go_wp2_with fail
  refine (giveUp_any aF _).mono ?_
  rintro e w4 ⟨rfl, rfl⟩
  exact ⟨rfl, rfl, T2.but⟩

set_option maxRecDepth 20000 in
set_option maxHeartbeats 3200000 in
theorem takeEntry_flow {B : Nat} {w : World} {r : Nat} {aS aF : Addr} {st s1 : Option (List UInt8)} {key : List UInt8} {b2 : List UInt8} {s3 s4 s5 : Option (List UInt8)} {x y z : Nat} (h : RdS B w r aS aF st) (e1 : rdTA st = (key, s1)) (e2 : rdA 1 s1 = (1, some b2)) (e3 : rdA 8 (some b2) = (x, s3)) (e4 : rdA 8 s3 = (y, s4)) (e5 : rdA 8 s4 = (z, s5)) :
    Calls Tryd.prog 49 #[.pointer (some ⟨r, 0, none⟩)] w fun e w' => (s5 = none ∧ e = Pan aS ∨ (∃ bz, s5 = some bz ∧ e = .returned (EV (⟨key.toArray⟩, ⟨1, x, y, 0, 0⟩, ⟨z, 0, 0⟩)) ∧ RdS B w' r aS aF s5)) ∧ But r w w' := by
  have k1 : ∀ u, RdS B u r aS aF st → Calls Tryd.prog 62 #[.pointer (some ⟨r, 0, none⟩)] u fun e w' => e = .returned (.string ⟨key.toArray⟩) ∧ RdS B w' r aS aF s1 ∧ But r u w' := fun u hu => by
    have := Text_S hu; rw [e1] at this; exact this
  have k2 : ∀ u, RdS B u r aS aF s1 → Calls Tryd.prog 63 #[.pointer (some ⟨r, 0, none⟩)] u fun e w' => e = .returned ( .int .u8 ((1 : Nat) : Int)) ∧ RdS B w' r aS aF (some b2) ∧ But r u w' := fun u hu => by
    have := U8_S hu; rw [e2] at this; exact this
  have k3 : ∀ u, RdS B u r aS aF (some b2) → Calls Tryd.prog 46 #[.pointer (some ⟨r, 0, none⟩)] u fun e w' => e = .returned (V x) ∧ RdS B w' r aS aF s3 ∧ But r u w' := fun u hu => by
    have := U64_S hu; rw [e3] at this; exact this
  have k4 : ∀ u, RdS B u r aS aF s3 → Calls Tryd.prog 46 #[.pointer (some ⟨r, 0, none⟩)] u fun e w' => e = .returned (V y) ∧ RdS B w' r aS aF s4 ∧ But r u w' := fun u hu => by
    have := U64_S hu; rw [e4] at this; exact this
  have k5 : ∀ u, RdS B u r aS aF s4 → Calls Tryd.prog 46 #[.pointer (some ⟨r, 0, none⟩)] u fun e w' => e = .returned (V z) ∧ RdS B w' r aS aF s5 ∧ But r u w' := fun u hu => by
    have := U64_S hu; rw [e5] at this; exact this
  clear e1 e2 e3 e4 e5
  go_enter Tryd.func49, Tryd.ntmps49
  have hA : RdS B (w.alloc (.cells ZE 50)) r aS aF st := h.below ((Up.alloc _ _).mono h.sz)
  go_wp2_with fail
  refine (k1 _ hA).mono ?_
  rintro e w1 ⟨rfl, h1, g1⟩
  have T1 := Tk.start #[.string ⟨key.toArray⟩, .int .i64 0, V 0, V 0, V 0, V 0, V 0, V 0, V 0] h1 g1 h
  clear h1 g1 hA k1
  go_wp2_with fail
  refine (k2 _ T1.rd).mono ?_
  rintro e w2 ⟨rfl, h2, g2⟩
  have T2 := T1.read h2 g2
  clear h2 g2 T1
  go_wp2_with fail
  refine (needWhole_ok T2.rd).mono ?_
  rintro e w9 ⟨rfl, rfl⟩
  go_wp2_with fail
  refine (k3 _ T2.rd).mono ?_
  rintro e w3 ⟨rfl, h3, g3⟩
  have T3 := T2.read h3 g3
  clear h3 g3 T2
  go_wp2_with fail
  refine (k4 _ T3.rd).mono ?_
  rintro e w4 ⟨rfl, h4, g4⟩
  have T4 := T3.read h4 g4
  clear h4 g4 T3
  obtain ⟨c0, c1, c2, c3, c4, c5, c6, c7, c8⟩ := T4.bx.c9
  have f0 := T4.bx.frozen
  have P := (((((T4.set 1 (.int .i64 1)).set 2 (V x)).set 3 (V y)).set 4 (V 0)).set 5 (V 0))
  clear T4
  go_wp2_with fail
  refine (k5 _ P.rd).mono ?_
  rintro e w5 ⟨rfl, h5, g5⟩
  have T5 := P.read h5 g5
  clear h5 g5 P c0 c1 c2 c3 c4 c5 c6 c7 c8 f0
  obtain ⟨c0, c1, c2, c3, c4, c5, c6, c7, c8⟩ := T5.bx.c9
  have f0 := T5.bx.frozen
  have P := (((T5.set 6 (V z)).set 7 (V 0)).set 8 (V 0))
  clear T5
  cases s5 with
  | none =>
    go_wp2_with fail
    refine (needWhole_no P.rd).mono ?_
    rintro e w10 ⟨rfl, rfl⟩
    exact ⟨rfl, .inl ⟨rfl, rfl⟩, P.but⟩
  | some bz =>
    go_wp2_with fail
    refine (needWhole_ok P.rd).mono ?_
    rintro e w10 ⟨rfl, rfl⟩
    clear c0 c1 c2 c3 c4 c5 c6 c7 c8 f0
    generalize World.setCell _ _ _ = wz at P ⊢
    obtain ⟨d0, d1, d2, d3, d4, d5, d6, d7, d8⟩ := Box.c9 P.bx
    obtain ⟨p0, p1, p2, p3, p4, p5, p6, p7, p8, ho⟩ := P.oc
    have f1 := ho.frozen
    obtain ⟨o0, o1, o2, o3, o4, o5, o6, o7, o8⟩ := ho.c9
    have hne := P.lk
    obtain ⟨wf, hwf, r1, r2, r3⟩ := P.fin (.string ⟨key.toArray⟩) (.int .i64 1) (V x) (V y) (V 0) (V 0) (V z) (V 0) (V 0)
    clear P
    go_wp2
    generalize hq : World.setCell _ _ _ = wq
    obtain rfl : wq = wf := hq.symm.trans hwf.symm
    clear hq hwf d0 d1 d2 d3 d4 d5 d6 d7 d8 o0 o1 o2 o3 o4 o5 o6 o7 o8 f1 ho
    obtain ⟨d0, d1, d2, d3, d4, d5, d6, d7, d8⟩ := r3.c9
    exact bodyPost_ret (v := EV (⟨key.toArray⟩, ⟨1, x, y, 0, 0⟩, ⟨z, 0, 0⟩)) (by simp [results, Tryd.results49, go_sem, d0, d1, d2, d3, d4, d5, d6, d7, d8]) rfl ⟨.inr ⟨_, rfl, rfl, r1⟩, r2⟩

set_option maxRecDepth 20000 in
set_option maxHeartbeats 3200000 in
theorem takeEntry_grid {B : Nat} {w : World} {r : Nat} {aS aF : Addr} {st s1 : Option (List UInt8)} {key : List UInt8} {b2 : List UInt8} {s3 s4 s5 s6 : Option (List UInt8)} {x y z n : Nat} (h : RdS B w r aS aF st) (e1 : rdTA st = (key, s1)) (e2 : rdA 1 s1 = (2, some b2)) (e3 : rdA 8 (some b2) = (x, s3)) (e4 : rdA 8 s3 = (y, s4)) (e5 : rdA 8 s4 = (z, s5)) (e6 : rdA 8 s5 = (n, s6)) :
    Calls Tryd.prog 49 #[.pointer (some ⟨r, 0, none⟩)] w fun e w' => (s6 = none ∧ e = Pan aS ∨ (∃ bz, s6 = some bz ∧ e = .returned (EV (⟨key.toArray⟩, ⟨2, 0, 0, x, y⟩, ⟨0, z, n⟩)) ∧ RdS B w' r aS aF s6)) ∧ But r w w' := by
  have k1 : ∀ u, RdS B u r aS aF st → Calls Tryd.prog 62 #[.pointer (some ⟨r, 0, none⟩)] u fun e w' => e = .returned (.string ⟨key.toArray⟩) ∧ RdS B w' r aS aF s1 ∧ But r u w' := fun u hu => by
    have := Text_S hu; rw [e1] at this; exact this
  have k2 : ∀ u, RdS B u r aS aF s1 → Calls Tryd.prog 63 #[.pointer (some ⟨r, 0, none⟩)] u fun e w' => e = .returned ( .int .u8 ((2 : Nat) : Int)) ∧ RdS B w' r aS aF (some b2) ∧ But r u w' := fun u hu => by
    have := U8_S hu; rw [e2] at this; exact this
  have k3 : ∀ u, RdS B u r aS aF (some b2) → Calls Tryd.prog 46 #[.pointer (some ⟨r, 0, none⟩)] u fun e w' => e = .returned (V x) ∧ RdS B w' r aS aF s3 ∧ But r u w' := fun u hu => by
    have := U64_S hu; rw [e3] at this; exact this
  have k4 : ∀ u, RdS B u r aS aF s3 → Calls Tryd.prog 46 #[.pointer (some ⟨r, 0, none⟩)] u fun e w' => e = .returned (V y) ∧ RdS B w' r aS aF s4 ∧ But r u w' := fun u hu => by
    have := U64_S hu; rw [e4] at this; exact this
  have k5 : ∀ u, RdS B u r aS aF s4 → Calls Tryd.prog 46 #[.pointer (some ⟨r, 0, none⟩)] u fun e w' => e = .returned (V z) ∧ RdS B w' r aS aF s5 ∧ But r u w' := fun u hu => by
    have := U64_S hu; rw [e5] at this; exact this
  have k6 : ∀ u, RdS B u r aS aF s5 → Calls Tryd.prog 46 #[.pointer (some ⟨r, 0, none⟩)] u fun e w' => e = .returned (V n) ∧ RdS B w' r aS aF s6 ∧ But r u w' := fun u hu => by
    have := U64_S hu; rw [e6] at this; exact this
  clear e1 e2 e3 e4 e5 e6
  go_enter Tryd.func49, Tryd.ntmps49
  have hA : RdS B (w.alloc (.cells ZE 50)) r aS aF st := h.below ((Up.alloc _ _).mono h.sz)
  go_wp2_with fail
  refine (k1 _ hA).mono ?_
  rintro e w1 ⟨rfl, h1, g1⟩
  have T1 := Tk.start #[.string ⟨key.toArray⟩, .int .i64 0, V 0, V 0, V 0, V 0, V 0, V 0, V 0] h1 g1 h
  clear h1 g1 hA k1
  go_wp2_with fail
  refine (k2 _ T1.rd).mono ?_
  rintro e w2 ⟨rfl, h2, g2⟩
  have T2 := T1.read h2 g2
  clear h2 g2 T1
  go_wp2_with fail
  refine (needWhole_ok T2.rd).mono ?_
  rintro e w9 ⟨rfl, rfl⟩
  go_wp2_with fail
  refine (k3 _ T2.rd).mono ?_
  rintro e w3 ⟨rfl, h3, g3⟩
  have T3 := T2.read h3 g3
  clear h3 g3 T2
  go_wp2_with fail
  refine (k4 _ T3.rd).mono ?_
  rintro e w4 ⟨rfl, h4, g4⟩
  have T4 := T3.read h4 g4
  clear h4 g4 T3
  obtain ⟨c0, c1, c2, c3, c4, c5, c6, c7, c8⟩ := T4.bx.c9
  have f0 := T4.bx.frozen
  have P := (((((T4.set 1 (.int .i64 2)).set 2 (V 0)).set 3 (V 0)).set 4 (V x)).set 5 (V y))
  clear T4
  go_wp2_with fail
  refine (k5 _ P.rd).mono ?_
  rintro e w5 ⟨rfl, h5, g5⟩
  have T5 := P.read h5 g5
  clear h5 g5 P c0 c1 c2 c3 c4 c5 c6 c7 c8 f0
  go_wp2_with fail
  refine (k6 _ T5.rd).mono ?_
  rintro e w6 ⟨rfl, h6, g6⟩
  have T6 := T5.read h6 g6
  clear h6 g6 T5
  obtain ⟨c0, c1, c2, c3, c4, c5, c6, c7, c8⟩ := T6.bx.c9
  have f0 := T6.bx.frozen
  have P := (((T6.set 6 (V 0)).set 7 (V z)).set 8 (V n))
  clear T6
  cases s6 with
  | none =>
    go_wp2_with fail
    refine (needWhole_no P.rd).mono ?_
    rintro e w10 ⟨rfl, rfl⟩
    exact ⟨rfl, .inl ⟨rfl, rfl⟩, P.but⟩
  | some bz =>
    go_wp2_with fail
    refine (needWhole_ok P.rd).mono ?_
    rintro e w10 ⟨rfl, rfl⟩
    clear c0 c1 c2 c3 c4 c5 c6 c7 c8 f0
    generalize World.setCell _ _ _ = wz at P ⊢
    obtain ⟨d0, d1, d2, d3, d4, d5, d6, d7, d8⟩ := Box.c9 P.bx
    obtain ⟨p0, p1, p2, p3, p4, p5, p6, p7, p8, ho⟩ := P.oc
    have f1 := ho.frozen
    obtain ⟨o0, o1, o2, o3, o4, o5, o6, o7, o8⟩ := ho.c9
    have hne := P.lk
    obtain ⟨wf, hwf, r1, r2, r3⟩ := P.fin (.string ⟨key.toArray⟩) (.int .i64 2) (V 0) (V 0) (V x) (V y) (V 0) (V z) (V n)
    clear P
    go_wp2
    generalize hq : World.setCell _ _ _ = wq
    obtain rfl : wq = wf := hq.symm.trans hwf.symm
    clear hq hwf d0 d1 d2 d3 d4 d5 d6 d7 d8 o0 o1 o2 o3 o4 o5 o6 o7 o8 f1 ho
    obtain ⟨d0, d1, d2, d3, d4, d5, d6, d7, d8⟩ := r3.c9
    exact bodyPost_ret (v := EV (⟨key.toArray⟩, ⟨2, 0, 0, x, y⟩, ⟨0, z, n⟩)) (by simp [results, Tryd.results49, go_sem, d0, d1, d2, d3, d4, d5, d6, d7, d8]) rfl ⟨.inr ⟨_, rfl, rfl, r1⟩, r2⟩

/-- What takeEntry answers: the entry, or it gives up. -/
def TkE (B : Nat) (w' : World) (r : Nat) (aS aF : Addr) (e : Ending) : Except ImE (Ent × List UInt8) → Prop
  | .error .short => e = Pan aS
  | .error _ => e = Pan aF
  | .ok (x, rest) => e = .returned (EV x) ∧ RdS B w' r aS aF (some rest)
theorem takeEntry_any {B : Nat} {w : World} {r : Nat} {aS aF : Addr} {bs : List UInt8} (h : RdS B w r aS aF (some bs)) :
    Calls Tryd.prog 49 #[.pointer (some ⟨r, 0, none⟩)] w fun e w' => TkE B w' r aS aF e (entD bs) ∧ But r w w' := by
  unfold entD
  simp only
  generalize e1 : rdTA (some bs) = r1
  obtain ⟨key, s1⟩ := r1
  simp only
  generalize e2 : rdA 1 s1 = r2
  obtain ⟨k, s2⟩ := r2
  simp only
  cases s2 with
  | none => exact takeEntry_short h e1 e2
  | some b2 =>
    simp only
    by_cases k1 : k = 1
    · subst k1
      rw [if_pos rfl]
      generalize e3 : rdA 8 (some b2) = r3
      obtain ⟨x, s3⟩ := r3
      simp only
      generalize e4 : rdA 8 s3 = r4
      obtain ⟨y, s4⟩ := r4
      simp only
      generalize e5 : rdA 8 s4 = r5
      obtain ⟨z, s5⟩ := r5
      refine (takeEntry_flow h e1 e2 e3 e4 e5).mono ?_
      rintro e w' ⟨hc, hb⟩
      refine ⟨?_, hb⟩
      rcases hc with ⟨rfl, rfl⟩ | ⟨bz, rfl, rfl, hr⟩
      · rfl
      · exact ⟨rfl, hr⟩
    · rw [if_neg k1]
      by_cases k2 : k = 2
      · subst k2
        rw [if_pos rfl]
        generalize e3 : rdA 8 (some b2) = r3
        obtain ⟨x, s3⟩ := r3
        simp only
        generalize e4 : rdA 8 s3 = r4
        obtain ⟨y, s4⟩ := r4
        simp only
        generalize e5 : rdA 8 s4 = r5
        obtain ⟨z, s5⟩ := r5
        simp only
        generalize e6 : rdA 8 s5 = r6
        obtain ⟨u, s6⟩ := r6
        refine (takeEntry_grid h e1 e2 e3 e4 e5 e6).mono ?_
        rintro e w' ⟨hc, hb⟩
        refine ⟨?_, hb⟩
        rcases hc with ⟨rfl, rfl⟩ | ⟨bz, rfl, rfl, hr⟩
        · rfl
        · exact ⟨rfl, hr⟩
      · rw [if_neg k2]
        exact takeEntry_form h e1 e2 (by simp only [beq_eq_false_iff_ne]; omega) (by simp only [beq_eq_false_iff_ne]; omega)
end Go.Proofs.YtooclofdljampaaDoor

/- Merged: DkOp2, DkOp3. -/
import Derived.Test.YtkfjkfpodkbkaaaGreatDoorMg17
import Derived.Test.YtkfjkfpodkbkaaaGreatDoorMg18
import Derived.Shelf.Abstract
set_option linter.unusedVariables false
set_option linter.unusedSimpArgs false
namespace Go.Proofs.YtkfjkfpodkbkaaaGreatDoor
open Go Go.RowKit Go.Maps

/-- The errors that a segment's road comes to. -/
def segErrs : List Nat := [2, 9, 10, 3, 11, 0, 1, 8, 7, 4, 6]
theorem seg_sub : ∀ g ∈ segErrs, g ∈ allErrs := by decide
theorem seg_ne {g k : Nat} (hg : g ∈ segErrs) (hk : k ∈ segErrs) (hne : g ≠ k) : errTxt g ≠ errTxt k := errTxt_unlike g (seg_sub g hg) k (seg_sub k hk) hne
theorem segIo : 0 ∈ segErrs := by decide
theorem segDown : 1 ∈ segErrs := by decide
theorem segSick : 4 ∈ segErrs := by decide
theorem segArg : 2 ∈ segErrs := by decide
theorem segNil : 6 ∈ segErrs := by decide
theorem segLong : 3 ∈ segErrs := by decide

theorem neq_nilFunc (u : World) : (binOp .neq 117 .nilFunc .nilFunc).run Tryz.prog u = .ok (.bool false) u := by kernel_rfl
theorem neq_someFunc (f : Nat) (c : Array Value) (u : World) : (binOp .neq 117 (.func (.func f) #[] c) .nilFunc).run Tryz.prog u = .ok (.bool true) u := by kernel_rfl

/-- A function that captures these. -/
abbrev clo (f : Nat) (c : Array Value) : Value := .func (.func f) #[] c
theorem DiskV.up {w w' : World} {base db : Nat} {D : Dsk} {bs bf : Nat} {vch : Value} {mp : Option Nat} {fl : Fls} (h : DiskV w base db D bs bf vch mp fl) (u : Up w w') : DiskV w' base db D bs bf vch mp fl := h.kept (Touch.of_up u []) (fun _ _ => by simp)
/-- A disk behind the count of an operation. -/
def Cnt (w : World) (base db : Nat) (D : Dsk) (bs bf : Nat) (vch : Value) (mp : Option Nat) (fl : Fls) (u : World) : Prop := DiskV u base db D.counted bs bf vch mp fl ∧ Touch w u [db]
theorem Cnt.up {w u u' : World} {base db : Nat} {D : Dsk} {bs bf : Nat} {vch : Value} {mp : Option Nat} {fl : Fls} (h : Cnt w base db D bs bf vch mp fl u) (k : Up u u') : Cnt w base db D bs bf vch mp fl u' :=
  ⟨h.1.up k, h.2.trans (Touch.of_up k []) (fun _ hk => by simp at hk)⟩
theorem Touch.up_of {W0 w w' : World} {S : List Nat} (u : Up W0 w) (t : Touch w w' S) (hS : ∀ k ∈ S, W0.heap.size ≤ k) : Up W0 w' := Below.trans u (t.below hS u.size)

set_option maxRecDepth 20000 in
set_option maxHeartbeats 800000 in
theorem operate_goes (W00 : World) (db : Nat) (D : Dsk) (bs bf : Nat) (vch : Value) (mp : Option Nat) (fl : Fls) (w : World) (ad : Nat → Addr) (h : DiskV w W00.heap.size db D bs bf vch mp fl) (hU : Up W00 w) (hE : ErrSet segErrs errTxt W00 ad) (hd : D.down = false) (hn1 : D.ops ≤ 1000000000000) (hn2 : D.ahead ≤ D.ops)
    (hf : D.fate = .goes) (fr fd : Nat) (cr cd : Array Value) (vp vw : Value) (R : World → Prop) (er : Enters Tryz.prog fr) (ed : Enters Tryz.prog fd)
    (hR : ∀ u, Cnt w W00.heap.size db D bs bf vch mp fl u → Calls Tryz.prog fr cr u fun e u' => e = .returned .nilIface ∧ Up u u')
    (hD : ∀ u, Cnt w W00.heap.size db D bs bf vch mp fl u → Calls Tryz.prog fd cd u fun e u' => e = .returned (.tuple #[]) ∧ R u') :
    Calls Tryz.prog 65 #[.pointer (some ⟨db, 0, none⟩), .agg #[clo fr cr, clo fd cd, vp, vw]] w fun e w' => e = .returned .nilIface ∧ R w' := by
  have u0 : Up w (w.alloc (.cells #[clo fr cr, clo fd cd, vp, vw] 119)) := Up.alloc _ _
  have b0 : Box (w.alloc (.cells #[clo fr cr, clo fd cd, vp, vw] 119)) w.heap.size #[clo fr cr, clo fd cd, vp, vw] := Box.new _ _ _
  obtain ⟨W0, hW0⟩ : ∃ W0, w.alloc (.cells #[clo fr cr, clo fd cd, vp, vw] 119) = W0 := ⟨_, rfl⟩
  rw [hW0] at u0 b0
  have h0 := h.up u0
  have hE0 := hE.up (hU.trans u0)
  have hrd := ready_up db W0 ((h0.box.cell 5).trans (by rw [← hd]; rfl))
  have hlow : ∀ g, g ∈ segErrs → g ≠ db := fun g hg e => by
    obtain ⟨t, q⟩ := (hE g hg).1
    have h1 := (Array.getElem?_eq_some_iff.1 q).1
    have h2 := h.ge db (by simp)
    omega
  have hct := count_any W00.heap.size db D bs bf vch mp fl W0 ad h0 hd hn1 hn2 (hE0 _ segIo).1 (hE0 _ segDown).1 (hlow _ segIo) (hlow _ segDown)
  rw [hf] at hct
  simp only [Fate.err] at hct
  have er' := er cr
  have ed' := ed cd
  have hdbne : w.heap.size ≠ db := by have := h.box.lt; omega
  have HG : Hid (ErrSet segErrs errTxt W00 ad ∧ Up W00 w ∧ W00.heap.size ≤ db ∧ w.heap.size ≠ db ∧ Up w W0) := ⟨hE, hU, h.ge db (by simp), hdbne, u0⟩
  have HB : Hid (Box W0 w.heap.size #[clo fr cr, clo fd cd, vp, vw]) := b0
  clear h h0 hf hd hn1 hn2 hE hE0 hU hlow u0 b0 hdbne
  go_enter Tryz.func65, Tryz.ntmps65
  go_wp2_with fail
  refine hrd.mono ?_
  rintro e w1 ⟨rfl, hw1⟩
  obtain rfl : W0 = w1 := hw1.symm
  clear hrd
  go_wp2_with fail
  refine hct.mono ?_
  rintro e w2 ⟨p, rfl, -, h2, t2⟩
  clear hct
  have C2 : Cnt w W00.heap.size db D bs bf vch mp fl w2 := ⟨h2, (Touch.of_up HG.out.2.2.2.2 [db]).trans t2 (fun k hk => .inl hk)⟩
  have b2 : Box w2 w.heap.size #[clo fr cr, clo fd cd, vp, vw] := t2.box HB.out (by simpa using HG.out.2.2.2.1)
  have U2 : Up W00 w2 := Touch.up_of HG.out.2.1 C2.2 (fun k hk => by simp at hk; subst hk; exact HG.out.2.2.1)
  have c0 : w2.cell? ⟨w.heap.size, 0, none⟩ = some (clo fr cr) := b2.cell 0
  have hr2 := hR w2 C2
  have H2 : Hid (Cnt w W00.heap.size db D bs bf vch mp fl w2 ∧ Box w2 w.heap.size #[clo fr cr, clo fd cd, vp, vw] ∧ ErrSet segErrs errTxt w2 ad) := ⟨C2, b2, HG.out.1.up U2⟩
  clear h2 t2 C2 b2 U2 HB HG
  go_wp2_with fail
  refine hr2.mono ?_
  rintro e w3 ⟨rfl, u3⟩
  clear hr2 er'
  have C3 := H2.out.1.up u3
  have b3 := H2.out.2.1.up u3
  have E3 := H2.out.2.2.up u3
  have g3 := (E3 _ segIo).1.cell
  have g4 := (E3 _ segDown).1.cell
  have c1 : w3.cell? ⟨w.heap.size, 1, none⟩ = some (clo fd cd) := b3.cell 1
  have i1 := isErr_nil (ad 1) w3
  have i2 := isErr_nil (ad 0) w3
  have hd3 := hD w3 C3
  clear c0 u3 C3 b3 H2 E3
  go_wp2_with fail
  refine i1.mono ?_
  rintro e w4 ⟨rfl, hw4⟩
  obtain rfl : w3 = w4 := hw4.symm
  clear i1
  go_wp2_with fail
  refine i2.mono ?_
  rintro e w5 ⟨rfl, hw5⟩
  obtain rfl : w3 = w5 := hw5.symm
  clear i2
  go_wp2_with fail
  refine hd3.mono ?_
  rintro e w6 ⟨rfl, r6⟩
  clear hd3
  go_wp2
  go_ret
  exact ⟨rfl, r6⟩

set_option maxRecDepth 20000 in
set_option maxHeartbeats 800000 in
theorem operate_fails (W00 : World) (db : Nat) (D : Dsk) (bs bf : Nat) (vch : Value) (mp : Option Nat) (fl : Fls) (w : World) (ad : Nat → Addr) (h : DiskV w W00.heap.size db D bs bf vch mp fl) (hU : Up W00 w) (hE : ErrSet segErrs errTxt W00 ad) (hd : D.down = false) (hn1 : D.ops ≤ 1000000000000) (hn2 : D.ahead ≤ D.ops)
    (q : Int) (hf : D.fate = .fails q) (fr fd : Nat) (cr cd : Array Value) (vw : Value) (R : World → Prop) (er : Enters Tryz.prog fr)
    (hR : ∀ u, Cnt w W00.heap.size db D bs bf vch mp fl u → Calls Tryz.prog fr cr u fun e u' => e = .returned .nilIface ∧ Up u u')
    (hD : ∀ u, Cnt w W00.heap.size db D bs bf vch mp fl u → R u) :
    Calls Tryz.prog 65 #[.pointer (some ⟨db, 0, none⟩), .agg #[clo fr cr, clo fd cd, .nilFunc, vw]] w fun e w' => e = .returned (E (ad 0)) ∧ R w' := by
  have u0 : Up w (w.alloc (.cells #[clo fr cr, clo fd cd, .nilFunc, vw] 119)) := Up.alloc _ _
  have b0 : Box (w.alloc (.cells #[clo fr cr, clo fd cd, .nilFunc, vw] 119)) w.heap.size #[clo fr cr, clo fd cd, .nilFunc, vw] := Box.new _ _ _
  obtain ⟨W0, hW0⟩ : ∃ W0, w.alloc (.cells #[clo fr cr, clo fd cd, .nilFunc, vw] 119) = W0 := ⟨_, rfl⟩
  rw [hW0] at u0 b0
  have h0 := h.up u0
  have hE0 := hE.up (hU.trans u0)
  have hrd := ready_up db W0 ((h0.box.cell 5).trans (by rw [← hd]; rfl))
  have hlow : ∀ g, g ∈ segErrs → g ≠ db := fun g hg e => by
    obtain ⟨t, q⟩ := (hE g hg).1
    have h1 := (Array.getElem?_eq_some_iff.1 q).1
    have h2 := h.ge db (by simp)
    omega
  have hct := count_any W00.heap.size db D bs bf vch mp fl W0 ad h0 hd hn1 hn2 (hE0 _ segIo).1 (hE0 _ segDown).1 (hlow _ segIo) (hlow _ segDown)
  rw [hf] at hct
  simp only [Fate.err] at hct
  have er' := er cr
  have hdbne : w.heap.size ≠ db := by have := h.box.lt; omega
  have HG : Hid (ErrSet segErrs errTxt W00 ad ∧ Up W00 w ∧ W00.heap.size ≤ db ∧ w.heap.size ≠ db ∧ Up w W0) := ⟨hE, hU, h.ge db (by simp), hdbne, u0⟩
  have HB : Hid (Box W0 w.heap.size #[clo fr cr, clo fd cd, .nilFunc, vw]) := b0
  clear h h0 hf hd hn1 hn2 hE hE0 hU hlow u0 b0 hdbne
  go_enter Tryz.func65, Tryz.ntmps65
  go_wp2_with fail
  refine hrd.mono ?_
  rintro e w1 ⟨rfl, hw1⟩
  obtain rfl : W0 = w1 := hw1.symm
  clear hrd
  go_wp2_with fail
  refine hct.mono ?_
  rintro e w2 ⟨p, rfl, -, h2, t2⟩
  clear hct
  have C2 : Cnt w W00.heap.size db D bs bf vch mp fl w2 := ⟨h2, (Touch.of_up HG.out.2.2.2.2 [db]).trans t2 (fun k hk => .inl hk)⟩
  have b2 : Box w2 w.heap.size #[clo fr cr, clo fd cd, .nilFunc, vw] := t2.box HB.out (by simpa using HG.out.2.2.2.1)
  have U2 : Up W00 w2 := Touch.up_of HG.out.2.1 C2.2 (fun k hk => by simp at hk; subst hk; exact HG.out.2.2.1)
  have c0 : w2.cell? ⟨w.heap.size, 0, none⟩ = some (clo fr cr) := b2.cell 0
  have hr2 := hR w2 C2
  have H2 : Hid (Cnt w W00.heap.size db D bs bf vch mp fl w2 ∧ Box w2 w.heap.size #[clo fr cr, clo fd cd, .nilFunc, vw] ∧ ErrSet segErrs errTxt w2 ad) := ⟨C2, b2, HG.out.1.up U2⟩
  clear h2 t2 C2 b2 U2 HB HG
  go_wp2_with fail
  refine hr2.mono ?_
  rintro e w3 ⟨rfl, u3⟩
  clear hr2 er'
  have C3 := H2.out.1.up u3
  have b3 := H2.out.2.1.up u3
  have E3 := H2.out.2.2.up u3
  have g3 := (E3 _ segIo).1.cell
  have g4 := (E3 _ segDown).1.cell
  have c2 : w3.cell? ⟨w.heap.size, 2, none⟩ = some .nilFunc := b3.cell 2
  have nf := neq_nilFunc w3
  have i1 := isErr_other (E3 _ segIo).2 (E3 _ segDown).2 (seg_ne segIo segDown (by decide))
  have i2 := isErr_same (ad 0) w3
  have hd3 := hD w3 C3
  clear c0 u3 C3 b3 H2 E3
  go_wp2_with fail
  refine i1.mono ?_
  rintro e w4 ⟨rfl, hw4⟩
  obtain rfl : w3 = w4 := hw4.symm
  clear i1
  go_wp2_with fail
  refine i2.mono ?_
  rintro e w5 ⟨rfl, hw5⟩
  obtain rfl : w3 = w5 := hw5.symm
  clear i2
  go_wp2
  go_ret
  exact ⟨rfl, hd3⟩

set_option maxRecDepth 20000 in
set_option maxHeartbeats 800000 in
theorem operate_part (W00 : World) (db : Nat) (D : Dsk) (bs bf : Nat) (vch : Value) (mp : Option Nat) (fl : Fls) (w : World) (ad : Nat → Addr) (h : DiskV w W00.heap.size db D bs bf vch mp fl) (hU : Up W00 w) (hE : ErrSet segErrs errTxt W00 ad) (hd : D.down = false) (hn1 : D.ops ≤ 1000000000000) (hn2 : D.ahead ≤ D.ops)
    (q : Int) (hf : D.fate = .fails q) (fr fd : Nat) (cr cd : Array Value) (fp : Nat) (cp : Array Value) (vw : Value) (R : World → Prop) (er : Enters Tryz.prog fr) (ep : Enters Tryz.prog fp)
    (hR : ∀ u, Cnt w W00.heap.size db D bs bf vch mp fl u → Calls Tryz.prog fr cr u fun e u' => e = .returned .nilIface ∧ Up u u')
    (hD : ∀ u, Cnt w W00.heap.size db D bs bf vch mp fl u → Calls Tryz.prog fp (#[.int .i64 q] ++ cp) u fun e u' => e = .returned (.tuple #[]) ∧ R u') :
    Calls Tryz.prog 65 #[.pointer (some ⟨db, 0, none⟩), .agg #[clo fr cr, clo fd cd, clo fp cp, vw]] w fun e w' => e = .returned (E (ad 0)) ∧ R w' := by
  have u0 : Up w (w.alloc (.cells #[clo fr cr, clo fd cd, clo fp cp, vw] 119)) := Up.alloc _ _
  have b0 : Box (w.alloc (.cells #[clo fr cr, clo fd cd, clo fp cp, vw] 119)) w.heap.size #[clo fr cr, clo fd cd, clo fp cp, vw] := Box.new _ _ _
  obtain ⟨W0, hW0⟩ : ∃ W0, w.alloc (.cells #[clo fr cr, clo fd cd, clo fp cp, vw] 119) = W0 := ⟨_, rfl⟩
  rw [hW0] at u0 b0
  have h0 := h.up u0
  have hE0 := hE.up (hU.trans u0)
  have hrd := ready_up db W0 ((h0.box.cell 5).trans (by rw [← hd]; rfl))
  have hlow : ∀ g, g ∈ segErrs → g ≠ db := fun g hg e => by
    obtain ⟨t, q⟩ := (hE g hg).1
    have h1 := (Array.getElem?_eq_some_iff.1 q).1
    have h2 := h.ge db (by simp)
    omega
  have hct := count_any W00.heap.size db D bs bf vch mp fl W0 ad h0 hd hn1 hn2 (hE0 _ segIo).1 (hE0 _ segDown).1 (hlow _ segIo) (hlow _ segDown)
  rw [hf] at hct
  simp only [Fate.err] at hct
  have er' := er cr
  have ep' := ep (#[.int .i64 q] ++ cp)
  have hdbne : w.heap.size ≠ db := by have := h.box.lt; omega
  have HG : Hid (ErrSet segErrs errTxt W00 ad ∧ Up W00 w ∧ W00.heap.size ≤ db ∧ w.heap.size ≠ db ∧ Up w W0) := ⟨hE, hU, h.ge db (by simp), hdbne, u0⟩
  have HB : Hid (Box W0 w.heap.size #[clo fr cr, clo fd cd, clo fp cp, vw]) := b0
  clear h h0 hf hd hn1 hn2 hE hE0 hU hlow u0 b0 hdbne
  go_enter Tryz.func65, Tryz.ntmps65
  go_wp2_with fail
  refine hrd.mono ?_
  rintro e w1 ⟨rfl, hw1⟩
  obtain rfl : W0 = w1 := hw1.symm
  clear hrd
  go_wp2_with fail
  refine hct.mono ?_
  rintro e w2 ⟨p, rfl, hp, h2, t2⟩
  obtain rfl : p = q := hp q rfl
  clear hp
  clear hct
  have C2 : Cnt w W00.heap.size db D bs bf vch mp fl w2 := ⟨h2, (Touch.of_up HG.out.2.2.2.2 [db]).trans t2 (fun k hk => .inl hk)⟩
  have b2 : Box w2 w.heap.size #[clo fr cr, clo fd cd, clo fp cp, vw] := t2.box HB.out (by simpa using HG.out.2.2.2.1)
  have U2 : Up W00 w2 := Touch.up_of HG.out.2.1 C2.2 (fun k hk => by simp at hk; subst hk; exact HG.out.2.2.1)
  have c0 : w2.cell? ⟨w.heap.size, 0, none⟩ = some (clo fr cr) := b2.cell 0
  have hr2 := hR w2 C2
  have H2 : Hid (Cnt w W00.heap.size db D bs bf vch mp fl w2 ∧ Box w2 w.heap.size #[clo fr cr, clo fd cd, clo fp cp, vw] ∧ ErrSet segErrs errTxt w2 ad) := ⟨C2, b2, HG.out.1.up U2⟩
  clear h2 t2 C2 b2 U2 HB HG
  go_wp2_with fail
  refine hr2.mono ?_
  rintro e w3 ⟨rfl, u3⟩
  clear hr2 er'
  have C3 := H2.out.1.up u3
  have b3 := H2.out.2.1.up u3
  have E3 := H2.out.2.2.up u3
  have g3 := (E3 _ segIo).1.cell
  have g4 := (E3 _ segDown).1.cell
  have c2 : w3.cell? ⟨w.heap.size, 2, none⟩ = some (clo fp cp) := b3.cell 2
  have nf := neq_someFunc fp cp w3
  have i1 := isErr_other (E3 _ segIo).2 (E3 _ segDown).2 (seg_ne segIo segDown (by decide))
  have i2 := isErr_same (ad 0) w3
  have hd3 := hD w3 C3
  clear c0 u3 C3 b3 H2 E3
  go_wp2_with fail
  refine i1.mono ?_
  rintro e w4 ⟨rfl, hw4⟩
  obtain rfl : w3 = w4 := hw4.symm
  clear i1
  go_wp2_with fail
  refine i2.mono ?_
  rintro e w5 ⟨rfl, hw5⟩
  obtain rfl : w3 = w5 := hw5.symm
  clear i2
  go_wp2_with fail
  refine hd3.mono ?_
  rintro e w6 ⟨rfl, r6⟩
  clear hd3
  go_wp2
  go_ret
  exact ⟨rfl, r6⟩

set_option maxRecDepth 20000 in
set_option maxHeartbeats 800000 in
theorem operate_cut_done (W00 : World) (db : Nat) (D : Dsk) (bs bf : Nat) (vch : Value) (mp : Option Nat) (fl : Fls) (w : World) (ad : Nat → Addr) (h : DiskV w W00.heap.size db D bs bf vch mp fl) (hU : Up W00 w) (hE : ErrSet segErrs errTxt W00 ad) (hd : D.down = false) (hn1 : D.ops ≤ 1000000000000) (hn2 : D.ahead ≤ D.ops)
    (hf : D.fate = .cut) (fr fd : Nat) (cr cd : Array Value) (vp : Value) (R : World → Prop) (er : Enters Tryz.prog fr) (ed : Enters Tryz.prog fd)
    (hR : ∀ u, Cnt w W00.heap.size db D bs bf vch mp fl u → Calls Tryz.prog fr cr u fun e u' => e = .returned .nilIface ∧ Up u u')
    (hD : ∀ u, Cnt w W00.heap.size db D bs bf vch mp fl u → Calls Tryz.prog fd cd u fun e u' => e = .returned (.tuple #[]) ∧ R u') :
    Calls Tryz.prog 65 #[.pointer (some ⟨db, 0, none⟩), .agg #[clo fr cr, clo fd cd, vp, .bool true]] w fun e w' => e = .returned (E (ad 1)) ∧ R w' := by
  have u0 : Up w (w.alloc (.cells #[clo fr cr, clo fd cd, vp, .bool true] 119)) := Up.alloc _ _
  have b0 : Box (w.alloc (.cells #[clo fr cr, clo fd cd, vp, .bool true] 119)) w.heap.size #[clo fr cr, clo fd cd, vp, .bool true] := Box.new _ _ _
  obtain ⟨W0, hW0⟩ : ∃ W0, w.alloc (.cells #[clo fr cr, clo fd cd, vp, .bool true] 119) = W0 := ⟨_, rfl⟩
  rw [hW0] at u0 b0
  have h0 := h.up u0
  have hE0 := hE.up (hU.trans u0)
  have hrd := ready_up db W0 ((h0.box.cell 5).trans (by rw [← hd]; rfl))
  have hlow : ∀ g, g ∈ segErrs → g ≠ db := fun g hg e => by
    obtain ⟨t, q⟩ := (hE g hg).1
    have h1 := (Array.getElem?_eq_some_iff.1 q).1
    have h2 := h.ge db (by simp)
    omega
  have hct := count_any W00.heap.size db D bs bf vch mp fl W0 ad h0 hd hn1 hn2 (hE0 _ segIo).1 (hE0 _ segDown).1 (hlow _ segIo) (hlow _ segDown)
  rw [hf] at hct
  simp only [Fate.err] at hct
  have er' := er cr
  have ed' := ed cd
  have hdbne : w.heap.size ≠ db := by have := h.box.lt; omega
  have HG : Hid (ErrSet segErrs errTxt W00 ad ∧ Up W00 w ∧ W00.heap.size ≤ db ∧ w.heap.size ≠ db ∧ Up w W0) := ⟨hE, hU, h.ge db (by simp), hdbne, u0⟩
  have HB : Hid (Box W0 w.heap.size #[clo fr cr, clo fd cd, vp, .bool true]) := b0
  clear h h0 hf hd hn1 hn2 hE hE0 hU hlow u0 b0 hdbne
  go_enter Tryz.func65, Tryz.ntmps65
  go_wp2_with fail
  refine hrd.mono ?_
  rintro e w1 ⟨rfl, hw1⟩
  obtain rfl : W0 = w1 := hw1.symm
  clear hrd
  go_wp2_with fail
  refine hct.mono ?_
  rintro e w2 ⟨p, rfl, -, h2, t2⟩
  clear hct
  have C2 : Cnt w W00.heap.size db D bs bf vch mp fl w2 := ⟨h2, (Touch.of_up HG.out.2.2.2.2 [db]).trans t2 (fun k hk => .inl hk)⟩
  have b2 : Box w2 w.heap.size #[clo fr cr, clo fd cd, vp, .bool true] := t2.box HB.out (by simpa using HG.out.2.2.2.1)
  have U2 : Up W00 w2 := Touch.up_of HG.out.2.1 C2.2 (fun k hk => by simp at hk; subst hk; exact HG.out.2.2.1)
  have c0 : w2.cell? ⟨w.heap.size, 0, none⟩ = some (clo fr cr) := b2.cell 0
  have hr2 := hR w2 C2
  have H2 : Hid (Cnt w W00.heap.size db D bs bf vch mp fl w2 ∧ Box w2 w.heap.size #[clo fr cr, clo fd cd, vp, .bool true] ∧ ErrSet segErrs errTxt w2 ad) := ⟨C2, b2, HG.out.1.up U2⟩
  clear h2 t2 C2 b2 U2 HB HG
  go_wp2_with fail
  refine hr2.mono ?_
  rintro e w3 ⟨rfl, u3⟩
  clear hr2 er'
  have C3 := H2.out.1.up u3
  have b3 := H2.out.2.1.up u3
  have E3 := H2.out.2.2.up u3
  have g3 := (E3 _ segIo).1.cell
  have g4 := (E3 _ segDown).1.cell
  have c1 : w3.cell? ⟨w.heap.size, 1, none⟩ = some (clo fd cd) := b3.cell 1
  have c3 : w3.cell? ⟨w.heap.size, 3, none⟩ = some (.bool true) := b3.cell 3
  have i1 := isErr_same (ad 1) w3
  have hd3 := hD w3 C3
  clear c0 u3 C3 b3 H2 E3
  go_wp2_with fail
  refine i1.mono ?_
  rintro e w4 ⟨rfl, hw4⟩
  obtain rfl : w3 = w4 := hw4.symm
  clear i1
  go_wp2_with fail
  refine hd3.mono ?_
  rintro e w6 ⟨rfl, r6⟩
  clear hd3
  go_wp2
  go_ret
  exact ⟨rfl, r6⟩

set_option maxRecDepth 20000 in
set_option maxHeartbeats 800000 in
theorem operate_cut_not (W00 : World) (db : Nat) (D : Dsk) (bs bf : Nat) (vch : Value) (mp : Option Nat) (fl : Fls) (w : World) (ad : Nat → Addr) (h : DiskV w W00.heap.size db D bs bf vch mp fl) (hU : Up W00 w) (hE : ErrSet segErrs errTxt W00 ad) (hd : D.down = false) (hn1 : D.ops ≤ 1000000000000) (hn2 : D.ahead ≤ D.ops)
    (hf : D.fate = .cut) (fr fd : Nat) (cr cd : Array Value) (vp : Value) (R : World → Prop) (er : Enters Tryz.prog fr)
    (hR : ∀ u, Cnt w W00.heap.size db D bs bf vch mp fl u → Calls Tryz.prog fr cr u fun e u' => e = .returned .nilIface ∧ Up u u')
    (hD : ∀ u, Cnt w W00.heap.size db D bs bf vch mp fl u → R u) :
    Calls Tryz.prog 65 #[.pointer (some ⟨db, 0, none⟩), .agg #[clo fr cr, clo fd cd, vp, .bool false]] w fun e w' => e = .returned (E (ad 1)) ∧ R w' := by
  have u0 : Up w (w.alloc (.cells #[clo fr cr, clo fd cd, vp, .bool false] 119)) := Up.alloc _ _
  have b0 : Box (w.alloc (.cells #[clo fr cr, clo fd cd, vp, .bool false] 119)) w.heap.size #[clo fr cr, clo fd cd, vp, .bool false] := Box.new _ _ _
  obtain ⟨W0, hW0⟩ : ∃ W0, w.alloc (.cells #[clo fr cr, clo fd cd, vp, .bool false] 119) = W0 := ⟨_, rfl⟩
  rw [hW0] at u0 b0
  have h0 := h.up u0
  have hE0 := hE.up (hU.trans u0)
  have hrd := ready_up db W0 ((h0.box.cell 5).trans (by rw [← hd]; rfl))
  have hlow : ∀ g, g ∈ segErrs → g ≠ db := fun g hg e => by
    obtain ⟨t, q⟩ := (hE g hg).1
    have h1 := (Array.getElem?_eq_some_iff.1 q).1
    have h2 := h.ge db (by simp)
    omega
  have hct := count_any W00.heap.size db D bs bf vch mp fl W0 ad h0 hd hn1 hn2 (hE0 _ segIo).1 (hE0 _ segDown).1 (hlow _ segIo) (hlow _ segDown)
  rw [hf] at hct
  simp only [Fate.err] at hct
  have er' := er cr
  have hdbne : w.heap.size ≠ db := by have := h.box.lt; omega
  have HG : Hid (ErrSet segErrs errTxt W00 ad ∧ Up W00 w ∧ W00.heap.size ≤ db ∧ w.heap.size ≠ db ∧ Up w W0) := ⟨hE, hU, h.ge db (by simp), hdbne, u0⟩
  have HB : Hid (Box W0 w.heap.size #[clo fr cr, clo fd cd, vp, .bool false]) := b0
  clear h h0 hf hd hn1 hn2 hE hE0 hU hlow u0 b0 hdbne
  go_enter Tryz.func65, Tryz.ntmps65
  go_wp2_with fail
  refine hrd.mono ?_
  rintro e w1 ⟨rfl, hw1⟩
  obtain rfl : W0 = w1 := hw1.symm
  clear hrd
  go_wp2_with fail
  refine hct.mono ?_
  rintro e w2 ⟨p, rfl, -, h2, t2⟩
  clear hct
  have C2 : Cnt w W00.heap.size db D bs bf vch mp fl w2 := ⟨h2, (Touch.of_up HG.out.2.2.2.2 [db]).trans t2 (fun k hk => .inl hk)⟩
  have b2 : Box w2 w.heap.size #[clo fr cr, clo fd cd, vp, .bool false] := t2.box HB.out (by simpa using HG.out.2.2.2.1)
  have U2 : Up W00 w2 := Touch.up_of HG.out.2.1 C2.2 (fun k hk => by simp at hk; subst hk; exact HG.out.2.2.1)
  have c0 : w2.cell? ⟨w.heap.size, 0, none⟩ = some (clo fr cr) := b2.cell 0
  have hr2 := hR w2 C2
  have H2 : Hid (Cnt w W00.heap.size db D bs bf vch mp fl w2 ∧ Box w2 w.heap.size #[clo fr cr, clo fd cd, vp, .bool false] ∧ ErrSet segErrs errTxt w2 ad) := ⟨C2, b2, HG.out.1.up U2⟩
  clear h2 t2 C2 b2 U2 HB HG
  go_wp2_with fail
  refine hr2.mono ?_
  rintro e w3 ⟨rfl, u3⟩
  clear hr2 er'
  have C3 := H2.out.1.up u3
  have b3 := H2.out.2.1.up u3
  have E3 := H2.out.2.2.up u3
  have g3 := (E3 _ segIo).1.cell
  have g4 := (E3 _ segDown).1.cell
  have c3 : w3.cell? ⟨w.heap.size, 3, none⟩ = some (.bool false) := b3.cell 3
  have i1 := isErr_same (ad 1) w3
  have hd3 := hD w3 C3
  clear c0 u3 C3 b3 H2 E3
  go_wp2_with fail
  refine i1.mono ?_
  rintro e w4 ⟨rfl, hw4⟩
  obtain rfl : w3 = w4 := hw4.symm
  clear i1
  go_wp2
  go_ret
  exact ⟨rfl, hd3⟩

end Go.Proofs.YtkfjkfpodkbkaaaGreatDoor

set_option linter.unusedVariables false
set_option linter.unusedSimpArgs false
namespace Go.Proofs.YtkfjkfpodkbkaaaGreatDoor
open Go Go.RowKit Go.Maps

theorem append1_any (kd kn db bs n : Nat) (x : Nm) (m : Nm → Option Nat) (k : Nat) (w : World) (cd : w.cell? ⟨kd, 0, none⟩ = some (.pointer (some ⟨db, 0, none⟩))) (cn : w.cell? ⟨kn, 0, none⟩ = some (Sv x)) (h0 : w.cell? ⟨db, 0, none⟩ = some (.map (some bs))) (hm : MapIs w bs n m) (hk : m x = some k) (hl : x.length ≤ maxLen) :
    Calls Tryz.prog 66 #[.pointer (some ⟨kd, 0, none⟩), .pointer (some ⟨kn, 0, none⟩)] w fun e w' => e = .returned .nilIface ∧ Up w w' := by
  have hmi := missing_not db bs n x m k w h0 hm hk hl
  go_enter Tryz.func66, Tryz.ntmps66
  go_wp2_with fail
  refine hmi.mono ?_
  rintro e w1 ⟨rfl, hw⟩
  obtain rfl : w = w1 := hw.symm
  go_wp2
  go_ret
  exact ⟨rfl, Up.refl _⟩
theorem sync1_any (kd kn db bs n : Nat) (x : Nm) (m : Nm → Option Nat) (k : Nat) (w : World) (cd : w.cell? ⟨kd, 0, none⟩ = some (.pointer (some ⟨db, 0, none⟩))) (cn : w.cell? ⟨kn, 0, none⟩ = some (Sv x)) (h0 : w.cell? ⟨db, 0, none⟩ = some (.map (some bs))) (hm : MapIs w bs n m) (hk : m x = some k) (hl : x.length ≤ maxLen) :
    Calls Tryz.prog 90 #[.pointer (some ⟨kd, 0, none⟩), .pointer (some ⟨kn, 0, none⟩)] w fun e w' => e = .returned .nilIface ∧ Up w w' := by
  have hmi := missing_not db bs n x m k w h0 hm hk hl
  go_enter Tryz.func90, Tryz.ntmps90
  go_wp2_with fail
  refine hmi.mono ?_
  rintro e w1 ⟨rfl, hw⟩
  obtain rfl : w = w1 := hw.symm
  go_wp2
  go_ret
  exact ⟨rfl, Up.refl _⟩

/-- A disk of which the file i is another one. -/
def FileDone (w : World) (base db : Nat) (D : Dsk) (i : Nat) (f : Fil → Fil) (L : List Nat) (w' : World) : Prop :=
  ∃ L', DiskAt w' base db (D.at i f) L' ∧ (∀ k ∈ L', k ∈ L ∨ w.heap.size ≤ k) ∧ Touch w w' L

theorem DiskV.done {w w' : World} {base db : Nat} {D : Dsk} {bs bf : Nat} {vch : Value} {mp : Option Nat} {fl : Fls} {i : Nat} {F : Fil} {L L' : List Nat} {f : Fil → Fil} (h : DiskV w base db D bs bf vch mp fl) (hi : D.fs[i]? = some F) (hp : fl[i]? = some (blk fl i, L)) (hf : FileAt w' base (blk fl i) ((i : Int) + 1) (f F) L') (hn : ∀ k ∈ L', k ∈ L ∨ w.heap.size ≤ k) (t : Touch w w' L) (hbase : base ≤ w.heap.size) :
    FileDone w base db D i f (dl db bs bf vch mp fl) w' := by
  obtain ⟨q1, q2⟩ := h.at hi hp hf t hn hbase
  refine ⟨_, ⟨_, _, _, _, _, q1, rfl⟩, q2, t.mono (fun k hk => .inl ?_)⟩
  have : k ∈ fl.flatMap (·.2) := List.mem_flatMap.2 ⟨_, List.mem_of_getElem? hp, hk⟩
  simp [this]

/-- The disk's own blocks are none of a file's. -/
theorem DiskV.apart {w : World} {base db : Nat} {D : Dsk} {bs bf : Nat} {vch : Value} {mp : Option Nat} {fl : Fls} {i : Nat} {p : Nat × List Nat} (h : DiskV w base db D bs bf vch mp fl) (hp : fl[i]? = some p) : ∀ k ∈ db :: bs :: bf :: (ob vch ++ mp.toList), k ∉ p.2 := fun k hk hm => by
  have nd := h.nd
  have hk2 : k ∈ fl.flatMap (·.2) := List.mem_flatMap.2 ⟨_, List.mem_of_getElem? hp, hm⟩
  have e : dl db bs bf vch mp fl = (db :: bs :: bf :: (ob vch ++ mp.toList)) ++ fl.flatMap (·.2) := by simp [dl]
  rw [e, List.nodup_append] at nd
  exact nd.2.2 k hk k hk2 rfl

set_option maxRecDepth 20000 in
set_option maxHeartbeats 800000 in
theorem append2_any (kd kn kv : Nat) (base db : Nat) (D : Dsk) (bs bf : Nat) (vch : Value) (mp : Option Nat) (fl : Fls) (w : World) (x : Nm) (i : Nat) (F : Fil) (vx : Value) (d : List UInt8) (h : DiskV w base db D bs bf vch mp fl)
    (cd : w.cell? ⟨kd, 0, none⟩ = some (.pointer (some ⟨db, 0, none⟩))) (cn : w.cell? ⟨kn, 0, none⟩ = some (Sv x)) (cv : w.cell? ⟨kv, 0, none⟩ = some vx)
    (hx : D.seen x = some i) (hi : D.fs[i]? = some F) (hF : F.Ok) (hbase : base ≤ w.heap.size) (hs : Sl 0 w vx d) (hsn : d ≠ [] → ∀ k, vx.ownBlock = some k → k ∉ dl db bs bf vch mp fl) (hl : F.seen.data.length + d.length ≤ CB) (hlx : x.length ≤ maxLen) :
    Calls Tryz.prog 67 #[.pointer (some ⟨kd, 0, none⟩), .pointer (some ⟨kn, 0, none⟩), .pointer (some ⟨kv, 0, none⟩)] w fun e w' => e = .returned (.tuple #[]) ∧ FileDone w base db D i (·.add d) (dl db bs bf vch mp fl) w' := by
  obtain ⟨L, hp, hfa⟩ := h.file hi
  have hLin : ∀ k ∈ L, k ∈ dl db bs bf vch mp fl := fun k hk => by
    have : k ∈ fl.flatMap (·.2) := List.mem_flatMap.2 ⟨_, List.mem_of_getElem? hp, hk⟩
    simp [this]
  have ud := Up.drew w
  have hlook := (h.see.up ud).look hlx
  rw [show nmap fl D.seen x = some (blk fl i) by simp [nmap, hx]] at hlook
  have hadd := add_any base (blk fl i) ((i : Int) + 1) F L vx d w.drew (hfa.kept (Touch.of_up ud []) (fun _ _ => by simp)) hF (Nat.le_trans hbase ud.size) (hs.up ud) (fun hne k hk hm => hsn hne k hk (hLin k hm)) hl
  have c0 : w.drew.cell? ⟨db, 0, none⟩ = some (.map (some bs)) := (h.box.up ud).cell 0
  have cd' : w.drew.cell? ⟨kd, 0, none⟩ = some (.pointer (some ⟨db, 0, none⟩)) := cd
  have cn' : w.drew.cell? ⟨kn, 0, none⟩ = some (Sv x) := cn
  have cv' : w.drew.cell? ⟨kv, 0, none⟩ = some vx := cv
  have HH : Hid (DiskV w base db D bs bf vch mp fl ∧ D.fs[i]? = some F ∧ fl[i]? = some (blk fl i, L) ∧ base ≤ w.heap.size) := ⟨h, hi, hp, hbase⟩
  have HA : Hid (Calls Tryz.prog 68 #[.pointer (some ⟨blk fl i, 0, none⟩), vx] w.drew fun e w' => ∃ L', e = .returned (.tuple #[]) ∧ FileAt w' base (blk fl i) ((i : Int) + 1) (F.add d) L' ∧ (∀ k ∈ L', k ∈ L ∨ w.drew.heap.size ≤ k) ∧ Touch w.drew w' L) := hadd
  clear h hi hp hbase hs hsn hF hl hfa hLin hx cd cn cv hadd
  go_enter Tryz.func67, Tryz.ntmps67
  go_region_with (go_at_call 68; refine HA.out.mono ?_; rintro e w1 ⟨L', rfl, hf1, hn1, t1⟩)
  all_goals
    go_wp2
    go_end0
    obtain ⟨h, hi, hp, hbase⟩ := HH.out
    exact ⟨rfl, h.done hi hp hf1 hn1 ((Touch.of_up ud L).trans t1 (fun k hk => .inl hk)) hbase⟩

end Go.Proofs.YtkfjkfpodkbkaaaGreatDoor

/- Merged: Text, Lives, Laid. -/
import Derived.Test.YtkfjkfpodkbkaaaGreatDoorMg14
import Derived.Deep.RegionWith
import Derived.Test.YtkfjkfpodkbkaaaGreatDoorRows
import Derived.LaidLaws
import Derived.LaidSub
import Derived.Stop.LaidErr
import Derived.MakeChecks
import Derived.ProofKit
set_option linter.unusedVariables false
namespace Go.Proofs.YtkfjkfpodkbkaaaGreatDoor
open Go Go.RowKit

set_option maxHeartbeats 400000 in
/-- Text where the length itself is short. -/
theorem text_short1 (base : Nat) (r : Nat) (bs : List UInt8) (a : Addr) (w : World) (h : Rdr base w r bs .nilIface) (hg : Gl w 9 a) (hn : bs.length < 2) :
    Calls Tryz.prog 192 #[.pointer (some ⟨r, 0, none⟩)] w fun e w' => e = .returned (.string ⟨#[]⟩) ∧ Rdr base w' r bs (E a) ∧ But r w w' := by
  obtain ⟨v, hs, hh, h0, h1, f0, f1⟩ := rdr_cells h
  have hsl := fun w1 (hu : But r w w1) => sl_but hh hs.ne_int (by intro k n e; cases e) hs hu
  obtain ⟨ao, cap, rfl, _⟩ := hs
  go_enter Tryz.func192, Tryz.ntmps192
  go_wp2_with fail
  refine (whole_short base r bs 2 a _ h hg hn).mono ?_
  rintro e w1 ⟨rfl, hr1, hb1⟩
  go_wp2_with fail
  refine (take_fault base r bs _ _ 0 _ hr1).mono ?_
  rintro e w2 ⟨rfl, rfl⟩
  have hr2 := rdr_set_left hr1 (by intro k n e; cases e) (hsl w2 hb1)
  obtain ⟨v1, hs1, hh1, c0, c1, g0, g1⟩ := rdr_cells hr1
  clear h hn hsl hh hh1 h0 h1 f0 f1 hs1 hr1
  go_wp2
  go_ret
  exact ⟨rfl, hr2, hb1.trans (But.setCell _ _ _ _)⟩

set_option maxHeartbeats 400000 in
/-- Text where the bytes are short. -/
theorem text_short2 (base : Nat) (r : Nat) (bs : List UInt8) (a : Addr) (w : World) (h : Rdr base w r bs .nilIface) (hg : Gl w 9 a) (hn : 2 ≤ bs.length) (n : Nat) (hu : Hid (unle (bs.take 2) = n)) (hlt : Hid (n < 65536)) (hn2 : Hid (bs.length < 2 + n)) :
    Calls Tryz.prog 192 #[.pointer (some ⟨r, 0, none⟩)] w fun e w' => e = .returned (.string ⟨#[]⟩) ∧ Rdr base w' r bs (E a) ∧ But r w w' := by
  obtain ⟨v, hs, hh, h0, h1, f0, f1⟩ := rdr_cells h
  have hgr := h.lt
  have hsl := fun w1 (hu : But r w w1) => sl_but hh hs.ne_int (by intro k n e; cases e) hs hu
  have hgl := hg.lt
  have hgne : (9 : Nat) ≠ r := by
    intro e
    obtain ⟨t, hg⟩ := hg
    rw [e, hh] at hg
    simp at hg
  obtain ⟨ao, cap, rfl, _⟩ := hs
  have hw := whole_ok base r bs 2 w h hn (by omega)
  rw [hu.out] at hw
  have hbd : ((n : Nat) : Int) < 9223372036854775807 := by have := hlt.out; omega
  go_enter Tryz.func192, Tryz.ntmps192
  go_wp2_with fail
  refine hw.mono ?_
  rintro e w1 ⟨rfl, hr1, hb1⟩
  have hg1 : Gl w1 9 a := by
    obtain ⟨t, hg⟩ := hg
    exact ⟨t, by rw [hb1.block _ hgl (by simpa using hgne)]; exact hg⟩
  clear hw
  go_wp2_with fail
  refine (take_short base r (bs.drop 2) n a _ hr1 hg1 (by have := hn2.out; simp; omega)).mono ?_
  rintro e w2 ⟨rfl, hr2, hb2⟩
  have hb3 := hb1.trans hb2
  have hr3 := rdr_set_left hr2 (by intro k n e; cases e) (hsl w2 hb3)
  obtain ⟨v1, hs1, hh1, c0, c1, g0, g1⟩ := rdr_cells hr2
  clear h hn hsl hh hh1 h0 h1 f0 f1 hs1 hr1 hr2 hbd hb2 hb1
  go_wp2
  go_ret
  exact ⟨rfl, hr3, hb3.trans (But.setCell _ _ _ _)⟩

set_option maxHeartbeats 400000 in
theorem text_ok (base : Nat) (r : Nat) (bs : List UInt8) (w : World) (h : Rdr base w r bs .nilIface) (hn : 2 ≤ bs.length) (n : Nat) (hu : Hid (unle (bs.take 2) = n)) (hlt : Hid (n < 65536)) (hn2 : Hid (2 + n ≤ bs.length)) :
    Calls Tryz.prog 192 #[.pointer (some ⟨r, 0, none⟩)] w fun e w' => e = .returned (.string ⟨((bs.drop 2).take n).toArray⟩) ∧ Rdr base w' r (bs.drop (2 + n)) .nilIface ∧ But r w w' := by
  have hw := whole_ok base r bs 2 w h hn (by omega)
  rw [hu.out] at hw
  obtain ⟨v, hs, hh, h0, h1, f0, f1⟩ := rdr_cells h
  have hbd : ((n : Nat) : Int) < 9223372036854775807 := by have := hlt.out; omega
  obtain ⟨S, hS⟩ : ∃ S : ByteArray, S = ⟨((bs.drop 2).take n).toArray⟩ := ⟨_, rfl⟩
  rw [← hS]
  have HS : Hid (S = ⟨((bs.drop 2).take n).toArray⟩) := hS
  clear hS
  go_enter Tryz.func192, Tryz.ntmps192
  go_wp2_with fail
  refine hw.mono ?_
  rintro e w1 ⟨rfl, hr1, hb1⟩
  clear hw
  go_wp2_with fail
  refine (take_ok base r (bs.drop 2) n _ hr1 (by have := hn2.out; simp; omega)).mono ?_
  rintro e w2 ⟨v2, rfl, hs2, hr2, hb2⟩
  have hb3 := hb1.trans hb2
  have hst := sl_string hs2
  rw [← HS.out] at hst
  rw [List.drop_drop] at hr2
  obtain ⟨v1, hs1, hh1, c0, c1, g0, g1⟩ := rdr_cells hr2
  obtain ⟨ao, cap, rfl, _⟩ := hs2
  rw [show ((bs.drop 2).take n).length = n by have := hn2.out; simp; omega] at hst ⊢
  clear h hn hh hh1 h0 h1 f0 f1 hs1 hr1 hbd hb2 hb1
  go_wp2
  go_ret
  exact ⟨rfl, hr2, hb3⟩

theorem Text_any (base : Nat) (r : Nat) (bs : List UInt8) (fv : Value) (a : Addr) (w : World) (h : Rdr base w r bs fv) (hf : isF fv) (hg : Gl w 9 a) :
    Calls Tryz.prog 152 #[.pointer (some ⟨r, 0, none⟩)] w fun e w' => e = .returned (.string ⟨(textA bs fv).toArray⟩) ∧ Rdr base w' r (textL bs fv) (textF a bs fv) ∧ But r w w' := by
  have key : Calls Tryz.prog 192 #[.pointer (some ⟨r, 0, none⟩)] w fun e w' => e = .returned (.string ⟨(textA bs fv).toArray⟩) ∧ Rdr base w' r (textL bs fv) (textF a bs fv) ∧ But r w w' := by
    rcases hf with rfl | ⟨x, rfl⟩
    · by_cases h2 : 2 ≤ bs.length
      · have hlt : unle (bs.take 2) < 65536 := by
          have := unle_lt (bs.take 2)
          rw [show (bs.take 2).length = 2 by simp; omega] at this
          omega
        by_cases h3 : 2 + unle (bs.take 2) ≤ bs.length
        · have hok : textOk bs := ⟨h2, h3⟩
          simp only [textA, textL, textF, if_pos hok]
          exact text_ok base r bs w h h2 _ rfl hlt h3
        · have hok : ¬ textOk bs := fun h => h3 h.2
          simp only [textA, textL, textF, if_neg hok]
          exact text_short2 base r bs a w h hg h2 _ rfl hlt (show bs.length < _ by omega)
      · have hok : ¬ textOk bs := fun h => h2 h.1
        simp only [textA, textL, textF, if_neg hok]
        exact text_short1 base r bs a w h hg (by omega)
    · exact text_fault base r bs x w h
  go_enter Tryz.func152, Tryz.ntmps152
  go_wp2_with fail
  refine key.mono ?_
  rintro e w1 ⟨rfl, h1, h2⟩
  clear key
  go_wp2
  go_ret
  exact ⟨rfl, h1, h2⟩

theorem textF_is (a : Addr) (bs : List UInt8) {fv : Value} (hf : isF fv) : isF (textF a bs fv) := by
  rcases hf with rfl | ⟨x, rfl⟩
  · simp only [textF]; split
    · exact .inl rfl
    · exact .inr ⟨a, rfl⟩
  · exact .inr ⟨x, rfl⟩

/-! A reader that is nil. -/
theorem nil_U8 (w : World) : Calls Tryz.prog 155 #[.pointer none] w fun e w' => e = .returned (.int .u8 0) ∧ w' = w := by
  go_enter Tryz.func155, Tryz.ntmps155
  go_wp2
  go_ret
  exact ⟨rfl, rfl⟩
theorem nil_U16 (w : World) : Calls Tryz.prog 117 #[.pointer none] w fun e w' => e = .returned (.int .u16 0) ∧ w' = w := by
  go_enter Tryz.func117, Tryz.ntmps117
  go_wp2
  go_ret
  exact ⟨rfl, rfl⟩
theorem nil_U32 (w : World) : Calls Tryz.prog 118 #[.pointer none] w fun e w' => e = .returned (.int .u32 0) ∧ w' = w := by
  go_enter Tryz.func118, Tryz.ntmps118
  go_wp2
  go_ret
  exact ⟨rfl, rfl⟩
theorem nil_U64 (w : World) : Calls Tryz.prog 116 #[.pointer none] w fun e w' => e = .returned (.int .u64 0) ∧ w' = w := by
  go_enter Tryz.func116, Tryz.ntmps116
  go_wp2
  go_ret
  exact ⟨rfl, rfl⟩
theorem nil_Text (w : World) : Calls Tryz.prog 152 #[.pointer none] w fun e w' => e = .returned (.string ⟨#[]⟩) ∧ w' = w := by
  go_enter Tryz.func152, Tryz.ntmps152
  go_wp2
  go_ret
  exact ⟨rfl, rfl⟩
theorem nil_Left (w : World) : Calls Tryz.prog 154 #[.pointer none] w fun e w' => e = .returned (.int .i64 0) ∧ w' = w := by
  go_enter Tryz.func154, Tryz.ntmps154
  go_wp2
  go_ret
  exact ⟨rfl, rfl⟩
theorem nil_Err (w : World) (a : Addr) (h : Gl w 6 a) : Calls Tryz.prog 153 #[.pointer none] w fun e w' => e = .returned (E a) ∧ w' = w := by
  have hc := h.cell
  go_enter Tryz.func153, Tryz.ntmps153
  go_wp2
  go_ret
  exact ⟨rfl, rfl⟩
end Go.Proofs.YtkfjkfpodkbkaaaGreatDoor

set_option linter.unusedVariables false
namespace Go.Proofs.YtkfjkfpodkbkaaaGreatDoor
open Go Go.RowKit

theorem str_eq (xs bs : List UInt8) : (xs == bs) = decide (xs = bs) := by
  by_cases h : xs = bs <;> simp [h]


theorem sl_new (w : World) (bs : List UInt8) (e : TypeId) : Sl w.heap.size (w.alloc (.cells (Bv bs).toArray e)) (.slice (some ⟨w.heap.size, 0, none⟩) bs.length bs.length) bs := by
  refine ⟨_, _, rfl, Nat.le_refl _, (by intro h; cases h), fun _ => ⟨_, _, rfl, Nat.le_refl _, ?_⟩⟩
  intro i hi
  rw [cell_of_row _ _ _ _ _ _ (heap_alloc_new _ _)]
  simp [hi]

theorem vn300 : vn 300 = [172, 2] := by decide +kernel
theorem num300 (aS aF : Addr) : numR aS aF 0 0 [172, 2] = (300, 2, .nilIface) := by rfl

/-- What the laws of this package know of the package's errors: where they lie. -/
structure Errs (w : World) (aS aF aN : Addr) : Prop where
  short : Gl w 9 aS
  form : Gl w 10 aF
  nil : Gl w 6 aN
theorem Errs.up {w w' : World} {aS aF aN : Addr} (h : Errs w aS aF aN) (hu : Up w w') : Errs w' aS aF aN := ⟨h.short.up hu, h.form.up hu, h.nil.up hu⟩

theorem Gl.but {w w' : World} {g r : Nat} {a : Addr} (h : Gl w g a) (hr : r ≠ g) (hb : But r w w') : Gl w' g a := by
  have hl := h.lt
  obtain ⟨t, h⟩ := h
  exact ⟨t, by rw [hb.block g hl (by simp; omega)]; exact h⟩
theorem Errs.but {w w' : World} {aS aF aN : Addr} {r : Nat} (h : Errs w aS aF aN) (hr : 16 ≤ r) (hb : But r w w') : Errs w' aS aF aN :=
  ⟨h.short.but (by omega) hb, h.form.but (by omega) hb, h.nil.but (by omega) hb⟩
theorem gl_ne {base : Nat} {w : World} {g r : Nat} {a : Addr} {bs : List UInt8} {fv : Value} (h : Gl w g a) (hr : Rdr base w r bs fv) : r ≠ g := by
  rintro rfl
  obtain ⟨t, h⟩ := h
  obtain ⟨v, hr, _⟩ := hr
  rw [h] at hr
  simp at hr
theorem Errs.rdr {base : Nat} {w w' : World} {aS aF aN : Addr} {r : Nat} {bs : List UInt8} {fv : Value} (h : Errs w aS aF aN) (hr : Rdr base w r bs fv) (hb : But r w w') : Errs w' aS aF aN :=
  ⟨h.short.but (gl_ne h.short hr) hb, h.form.but (gl_ne h.form hr) hb, h.nil.but (gl_ne h.nil hr) hb⟩


/-- PackBytes' loop looks at eight bytes. -/
theorem le_get (n x i : Nat) (h : i < n) : (le n x)[i]? = some (UInt8.ofNat (x / 256 ^ i)) := by
  induction n generalizing x i with
  | zero => omega
  | succ n ih =>
    cases i with
    | zero => simp [le]
    | succ i => rw [le, List.getElem?_cons_succ, ih (x / 256) i (by omega), Nat.pow_succ, Nat.div_div_eq_div_mul, Nat.mul_comm 256]
theorem le_take (m n x : Nat) (h : m ≤ n) : (le n x).take m = le m x := by
  induction m generalizing n x with
  | zero => simp [le]
  | succ m ih =>
    cases n with
    | zero => omega
    | succ n => simp [le, ih n (x / 256) (by omega)]
theorem le_mod (m x : Nat) : le m (x % 256 ^ m) = le m x := by
  induction m generalizing x with
  | zero => rfl
  | succ m ih =>
    have e1 : x % 256 ^ (m + 1) / 256 = (x / 256) % 256 ^ m := by
      rw [Nat.pow_succ, Nat.mul_comm, Nat.mod_mul_right_div_self]
    have e2 : UInt8.ofNat (x % 256 ^ (m + 1)) = UInt8.ofNat x := by
      apply UInt8.toNat.inj
      rw [UInt8.toNat_ofNat', UInt8.toNat_ofNat']
      exact Nat.mod_mod_of_dvd x (by rw [Nat.pow_succ]; exact Nat.dvd_mul_left _ _)
    rw [le, le, e1, e2, ih]

end Go.Proofs.YtkfjkfpodkbkaaaGreatDoor

set_option linter.unusedVariables false
namespace Go.Proofs.YtkfjkfpodkbkaaaGreatDoor
open Go Go.RowKit Go.ChangeShapes Go.WideShapes

theorem Tryz.nameErr : Tryz.prog.typeName? 3 243 = some "*errors.errorString" := by kernel_rfl
theorem Tryz.cellsErr : Tryz.prog.cellsOf 245 = 1 := by kernel_rfl
theorem Tryz.cellsStr : Tryz.prog.cellsOf 9 = 1 := by kernel_rfl
theorem Tryz.star : "*" ++ "errors.errorString" = "*errors.errorString" := by decide
theorem Tryz.rowErr (u : TypeId) (h : Tryz.prog.typeName? 3 u = some "*errors.errorString") : u = 243 :=
  typeName_ptr_named (nm := "errors.errorString") (by rw [Tryz.star]; kernel_rfl) (by kernel_rfl) (by decide) u (by rw [Tryz.star]; exact h)

/-- The error at a reads as this text, in a block of cells. -/
structure ErrAt (w : World) (a : Addr) (text : List UInt8) : Prop where
  cell : ∃ s : ByteArray, w.cell? a = some (.string s) ∧ s.data.toList = text
  block : ∃ c t, w.heap[a.block]? = some (.cells c t (0, 0))

set_option maxRecDepth 20000 in
theorem gl_of_laid {n : String} {g : Nat} {text : List UInt8} {l : List (String × DataW Unit)} {W : World} (h : laidMetH Tryz.prog l W)
    (hl : (l.filter fun x => x.1 == n) = [(n, .iface "*errors.errorString" (.ptr (.agg [.lit (.string text)])))]) (hp : (l.all fun x => x.2.handleName?.isNone) = true)
    (hg : Tryz.prog.globalNamed n = some g) (ht : (Tryz.prog.globals[g]?).map (·.type) = some 40) : ∃ a, Gl W g a ∧ ErrAt W a text := by
  have h1 := h.filter (fun x => x.1 == n)
  rw [hl, MakeChecks.laidMetH_plain _ _ _ (by rfl)] at h1
  obtain ⟨ps, ⟨g0, t0, cs0, f0, p0, q0, hg0, ht0, hv0, hd0, hq0, e0⟩, hnd, hrows⟩ := h1
  obtain rfl := Option.some.inj (hg.symm.trans hg0)
  obtain rfl := Option.some.inj (ht.symm.trans ht0)
  have hq0' : q0 = [] := hq0
  subst hq0' e0
  obtain ⟨l0⟩ := cs0
  have ok0 : ∀ u v, l0 = [.iface u v] → Value.okWide Tryz.prog W .any 0 u v := fun u v e => by
    subst e
    exact (hrows g 0 (by simp [MemPlace.row])).2 u v (by simpa using World.var?_cell hg0 hv0 0)
  obtain ⟨a0, s0, rfl, hc0, hs0, hz0, rfl⟩ := errorString_of_trod Tryz.underlying40 Tryz.rowErr Tryz.underlying243 Tryz.underlying245 rfl rfl Tryz.underlying9 Tryz.cellsErr Tryz.cellsStr hd0 ok0
  obtain ⟨c0, t0, hb0⟩ := (hrows a0.block a0.off (by simp [MemPlace.row])).1
  obtain ⟨c1, t1, hb1⟩ := (hrows g 0 (by simp [MemPlace.row])).1
  refine ⟨a0, ⟨t1, ?_⟩, ⟨⟨s0, hc0, hs0⟩, c0, t0, hb0⟩⟩
  simp only [World.var?, hg, Option.bind_some, hb1] at hv0
  rw [hb1]
  simpa using hv0

theorem own : ownKnob Tryz.prog.godebug = none := by kernel_rfl
theorem Tryz.gShort : Tryz.prog.globalNamed "turnstile/api.ErrShort" = some 9 := by kernel_rfl
theorem Tryz.gForm : Tryz.prog.globalNamed "turnstile/api.ErrForm" = some 10 := by kernel_rfl
theorem Tryz.gNil : Tryz.prog.globalNamed "turnstile/api.ErrNil" = some 6 := by kernel_rfl
theorem Tryz.gtShort : (Tryz.prog.globals[9]?).map (·.type) = some 40 := by kernel_rfl
theorem Tryz.gtForm : (Tryz.prog.globals[10]?).map (·.type) = some 40 := by kernel_rfl
theorem Tryz.gtNil : (Tryz.prog.globals[6]?).map (·.type) = some 40 := by kernel_rfl
end Go.Proofs.YtkfjkfpodkbkaaaGreatDoor

/- Merged: Text. -/
import Derived.Test.YtcllenlpoknakaaDoorMr17
set_option linter.unusedVariables false
namespace Go.Proofs.YtcllenlpoknakaaDoor
open Go Go.RowKit

set_option maxHeartbeats 400000 in
/-- Text where the length itself is short. -/
theorem text_short1 (base : Nat) (r : Nat) (bs : List UInt8) (a : Addr) (w : World) (h : Rdr base w r bs .nilIface) (hg : Gl w 1 a) (hn : bs.length < 2) :
    Calls Tryd.prog 50 #[.pointer (some ⟨r, 0, none⟩)] w fun e w' => e = .returned (.string ⟨#[]⟩) ∧ Rdr base w' r bs (E a) ∧ But r w w' := by
  obtain ⟨v, hs, hh, h0, h1, f0, f1⟩ := rdr_cells h
  have hsl := fun w1 (hu : But r w w1) => sl_but hh hs.ne_int (by intro k n e; cases e) hs hu
  obtain ⟨ao, cap, rfl, _⟩ := hs
  go_enter Tryd.func50, Tryd.ntmps50
  go_wp2_with fail
  refine (whole_short base r bs 2 a _ h hg hn).mono ?_
  rintro e w1 ⟨rfl, hr1, hb1⟩
  go_wp2_with fail
  refine (take_fault base r bs _ _ 0 _ hr1).mono ?_
  rintro e w2 ⟨rfl, rfl⟩
  have hr2 := rdr_set_left hr1 (by intro k n e; cases e) (hsl w2 hb1)
  obtain ⟨v1, hs1, hh1, c0, c1, g0, g1⟩ := rdr_cells hr1
  clear h hn hsl hh hh1 h0 h1 f0 f1 hs1 hr1
  go_wp2
  go_ret
  exact ⟨rfl, hr2, hb1.trans (But.setCell _ _ _ _)⟩

set_option maxHeartbeats 400000 in
/-- Text where the bytes are short. -/
theorem text_short2 (base : Nat) (r : Nat) (bs : List UInt8) (a : Addr) (w : World) (h : Rdr base w r bs .nilIface) (hg : Gl w 1 a) (hn : 2 ≤ bs.length) (n : Nat) (hu : Hid (unle (bs.take 2) = n)) (hlt : Hid (n < 65536)) (hn2 : Hid (bs.length < 2 + n)) :
    Calls Tryd.prog 50 #[.pointer (some ⟨r, 0, none⟩)] w fun e w' => e = .returned (.string ⟨#[]⟩) ∧ Rdr base w' r bs (E a) ∧ But r w w' := by
  obtain ⟨v, hs, hh, h0, h1, f0, f1⟩ := rdr_cells h
  have hgr := h.lt
  have hsl := fun w1 (hu : But r w w1) => sl_but hh hs.ne_int (by intro k n e; cases e) hs hu
  have hgl := hg.lt
  have hgne : (1 : Nat) ≠ r := by
    intro e
    obtain ⟨t, hg⟩ := hg
    rw [e, hh] at hg
    simp at hg
  obtain ⟨ao, cap, rfl, _⟩ := hs
  have hw := whole_ok base r bs 2 w h hn (by omega)
  rw [hu.out] at hw
  have hbd : ((n : Nat) : Int) < 9223372036854775807 := by have := hlt.out; omega
  go_enter Tryd.func50, Tryd.ntmps50
  go_wp2_with fail
  refine hw.mono ?_
  rintro e w1 ⟨rfl, hr1, hb1⟩
  have hg1 : Gl w1 1 a := by
    obtain ⟨t, hg⟩ := hg
    exact ⟨t, by rw [hb1.block _ hgl (by simpa using hgne)]; exact hg⟩
  clear hw
  go_wp2_with fail
  refine (take_short base r (bs.drop 2) n a _ hr1 hg1 (by have := hn2.out; simp; omega)).mono ?_
  rintro e w2 ⟨rfl, hr2, hb2⟩
  have hb3 := hb1.trans hb2
  have hr3 := rdr_set_left hr2 (by intro k n e; cases e) (hsl w2 hb3)
  obtain ⟨v1, hs1, hh1, c0, c1, g0, g1⟩ := rdr_cells hr2
  clear h hn hsl hh hh1 h0 h1 f0 f1 hs1 hr1 hr2 hbd hb2 hb1
  go_wp2
  go_ret
  exact ⟨rfl, hr3, hb3.trans (But.setCell _ _ _ _)⟩

set_option maxHeartbeats 400000 in
theorem text_ok (base : Nat) (r : Nat) (bs : List UInt8) (w : World) (h : Rdr base w r bs .nilIface) (hn : 2 ≤ bs.length) (n : Nat) (hu : Hid (unle (bs.take 2) = n)) (hlt : Hid (n < 65536)) (hn2 : Hid (2 + n ≤ bs.length)) :
    Calls Tryd.prog 50 #[.pointer (some ⟨r, 0, none⟩)] w fun e w' => e = .returned (.string ⟨((bs.drop 2).take n).toArray⟩) ∧ Rdr base w' r (bs.drop (2 + n)) .nilIface ∧ But r w w' := by
  have hw := whole_ok base r bs 2 w h hn (by omega)
  rw [hu.out] at hw
  obtain ⟨v, hs, hh, h0, h1, f0, f1⟩ := rdr_cells h
  have hbd : ((n : Nat) : Int) < 9223372036854775807 := by have := hlt.out; omega
  obtain ⟨S, hS⟩ : ∃ S : ByteArray, S = ⟨((bs.drop 2).take n).toArray⟩ := ⟨_, rfl⟩
  rw [← hS]
  have HS : Hid (S = ⟨((bs.drop 2).take n).toArray⟩) := hS
  clear hS
  go_enter Tryd.func50, Tryd.ntmps50
  go_wp2_with fail
  refine hw.mono ?_
  rintro e w1 ⟨rfl, hr1, hb1⟩
  clear hw
  go_wp2_with fail
  refine (take_ok base r (bs.drop 2) n _ hr1 (by have := hn2.out; simp; omega)).mono ?_
  rintro e w2 ⟨v2, rfl, hs2, hr2, hb2⟩
  have hb3 := hb1.trans hb2
  have hst := sl_string hs2
  rw [← HS.out] at hst
  rw [List.drop_drop] at hr2
  obtain ⟨v1, hs1, hh1, c0, c1, g0, g1⟩ := rdr_cells hr2
  obtain ⟨ao, cap, rfl, _⟩ := hs2
  rw [show ((bs.drop 2).take n).length = n by have := hn2.out; simp; omega] at hst ⊢
  clear h hn hh hh1 h0 h1 f0 f1 hs1 hr1 hbd hb2 hb1
  go_wp2
  go_ret
  exact ⟨rfl, hr2, hb3⟩

theorem Text_any (base : Nat) (r : Nat) (bs : List UInt8) (fv : Value) (a : Addr) (w : World) (h : Rdr base w r bs fv) (hf : isF fv) (hg : Gl w 1 a) :
    Calls Tryd.prog 32 #[.pointer (some ⟨r, 0, none⟩)] w fun e w' => e = .returned (.string ⟨(textA bs fv).toArray⟩) ∧ Rdr base w' r (textL bs fv) (textF a bs fv) ∧ But r w w' := by
  have key : Calls Tryd.prog 50 #[.pointer (some ⟨r, 0, none⟩)] w fun e w' => e = .returned (.string ⟨(textA bs fv).toArray⟩) ∧ Rdr base w' r (textL bs fv) (textF a bs fv) ∧ But r w w' := by
    rcases hf with rfl | ⟨x, rfl⟩
    · by_cases h2 : 2 ≤ bs.length
      · have hlt : unle (bs.take 2) < 65536 := by
          have := unle_lt (bs.take 2)
          rw [show (bs.take 2).length = 2 by simp; omega] at this
          omega
        by_cases h3 : 2 + unle (bs.take 2) ≤ bs.length
        · have hok : textOk bs := ⟨h2, h3⟩
          simp only [textA, textL, textF, if_pos hok]
          exact text_ok base r bs w h h2 _ rfl hlt h3
        · have hok : ¬ textOk bs := fun h => h3 h.2
          simp only [textA, textL, textF, if_neg hok]
          exact text_short2 base r bs a w h hg h2 _ rfl hlt (show bs.length < _ by omega)
      · have hok : ¬ textOk bs := fun h => h2 h.1
        simp only [textA, textL, textF, if_neg hok]
        exact text_short1 base r bs a w h hg (by omega)
    · exact text_fault base r bs x w h
  go_enter Tryd.func32, Tryd.ntmps32
  go_wp2_with fail
  refine key.mono ?_
  rintro e w1 ⟨rfl, h1, h2⟩
  clear key
  go_wp2
  go_ret
  exact ⟨rfl, h1, h2⟩

theorem textF_is (a : Addr) (bs : List UInt8) {fv : Value} (hf : isF fv) : isF (textF a bs fv) := by
  rcases hf with rfl | ⟨x, rfl⟩
  · simp only [textF]; split
    · exact .inl rfl
    · exact .inr ⟨a, rfl⟩
  · exact .inr ⟨x, rfl⟩

/-! A reader that is nil. -/
theorem nil_U8 (w : World) : Calls Tryd.prog 28 #[.pointer none] w fun e w' => e = .returned (.int .u8 0) ∧ w' = w := by
  go_enter Tryd.func28, Tryd.ntmps28
  go_wp2
  go_ret
  exact ⟨rfl, rfl⟩
theorem nil_U64 (w : World) : Calls Tryd.prog 31 #[.pointer none] w fun e w' => e = .returned (.int .u64 0) ∧ w' = w := by
  go_enter Tryd.func31, Tryd.ntmps31
  go_wp2
  go_ret
  exact ⟨rfl, rfl⟩
theorem nil_Text (w : World) : Calls Tryd.prog 32 #[.pointer none] w fun e w' => e = .returned (.string ⟨#[]⟩) ∧ w' = w := by
  go_enter Tryd.func32, Tryd.ntmps32
  go_wp2
  go_ret
  exact ⟨rfl, rfl⟩
theorem nil_Left (w : World) : Calls Tryd.prog 51 #[.pointer none] w fun e w' => e = .returned (.int .i64 0) ∧ w' = w := by
  go_enter Tryd.func51, Tryd.ntmps51
  go_wp2
  go_ret
  exact ⟨rfl, rfl⟩
theorem nil_Err (w : World) (a : Addr) (h : Gl w 4 a) : Calls Tryd.prog 29 #[.pointer none] w fun e w' => e = .returned (E a) ∧ w' = w := by
  have hc := h.cell
  go_enter Tryd.func29, Tryd.ntmps29
  go_wp2
  go_ret
  exact ⟨rfl, rfl⟩
theorem nil_End (w : World) (a : Addr) (h : Gl w 4 a) : Calls Tryd.prog 35 #[.pointer none] w fun e w' => e = .returned (E a) ∧ w' = w := by
  go_enter Tryd.func35, Tryd.ntmps35
  go_wp2_with fail
  refine (nil_Err _ a h).mono ?_
  rintro e w1 ⟨rfl, rfl⟩
  go_wp2
  go_ret
  exact ⟨rfl, rfl⟩
end Go.Proofs.YtcllenlpoknakaaDoor

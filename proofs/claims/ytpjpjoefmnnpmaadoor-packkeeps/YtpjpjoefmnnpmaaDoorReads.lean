/- What told and takes of layer 1's laws answer: the program's reader and the reference's go side by side. -/
import Derived.Test.YtpjpjoefmnnpmaaDoorSame
set_option linter.unusedVariables false
namespace Go.Proofs.YtpjpjoefmnnpmaaDoor
open Go Go.RowKit

/-- The numbers of a reader's faults. -/
def okC (c : Nat) : Prop := c = 0 ∨ c = 2 ∨ c = 3

theorem fvOf_is (aS aF : Addr) (c : Nat) : isF (fvOf aS aF c) := by
  unfold fvOf
  split
  · exact .inl rfl
  · split
    · exact .inr ⟨aS, rfl⟩
    · exact .inr ⟨aF, rfl⟩

theorem whole_c (aS aF : Addr) (n : Nat) (bs : List UInt8) (c : Nat) (hc : okC c) :
    wholeA n bs (fvOf aS aF c) = cA n bs c ∧ wholeL n bs (fvOf aS aF c) = cL n bs c ∧ wholeF aS n bs (fvOf aS aF c) = fvOf aS aF (cF n bs c) ∧ okC (cF n bs c) ∧ (cL n bs c).length ≤ bs.length := by
  rcases hc with rfl | rfl | rfl
  · by_cases hn : n ≤ bs.length
    · simp [fvOf, wholeA, wholeL, wholeF, cA, cL, cF, okC, hn]
    · simp [fvOf, wholeA, wholeL, wholeF, cA, cL, cF, okC, hn]
  · simp [fvOf, wholeA, wholeL, wholeF, cA, cL, cF, okC]
  · simp [fvOf, wholeA, wholeL, wholeF, cA, cL, cF, okC]

theorem text_c (aS aF : Addr) (bs : List UInt8) (c : Nat) (hc : okC c) :
    textA bs (fvOf aS aF c) = tA bs c ∧ textL bs (fvOf aS aF c) = tL bs c ∧ textF aS bs (fvOf aS aF c) = fvOf aS aF (tF bs c) ∧ okC (tF bs c) ∧ (tL bs c).length ≤ bs.length := by
  rcases hc with rfl | rfl | rfl
  · by_cases hn : textOk bs
    · simp [fvOf, textA, textL, textF, tA, tL, tF, okC, if_pos hn]
    · simp [fvOf, textA, textL, textF, tA, tL, tF, okC, hn]
  · simp [fvOf, textA, textL, textF, tA, tL, tF, okC]
  · simp [fvOf, textA, textL, textF, tA, tL, tF, okC]

theorem rN_ok (bs : List UInt8) : okC (rN bs).2.2 := by
  unfold rN
  split
  · split
    · exact .inr (.inl rfl)
    · exact .inr (.inr rfl)
  · split
    · exact .inr (.inr rfl)
    · exact .inl rfl

theorem num_c (aS aF : Addr) (bs : List UInt8) (c : Nat) (hc : okC c) :
    numA aS aF bs (fvOf aS aF c) = nA bs c ∧ numL aS aF bs (fvOf aS aF c) = nL bs c ∧ numF aS aF bs (fvOf aS aF c) = fvOf aS aF (nF bs c) ∧ okC (nF bs c) ∧ (nL bs c).length ≤ bs.length := by
  rcases hc with rfl | rfl | rfl
  · have h := rN_ok bs
    have e : fvOf aS aF 0 = .nilIface := rfl
    simp only [e, numA, numL, numF, nA, nL, nF, if_true, numR_rN aS aF bs]
    exact ⟨trivial, trivial, trivial, h, by simp⟩
  · simp [fvOf, numA, numL, numF, nA, nL, nF, okC]
  · simp [fvOf, numA, numL, numF, nA, nL, nF, okC]

theorem end_c (aS aF : Addr) (bs : List UInt8) (c : Nat) (hc : okC c) : endF aF bs (fvOf aS aF c) = fvOf aS aF (endC bs c) ∧ okC (endC bs c) := by
  rcases hc with rfl | rfl | rfl
  · by_cases hn : bs.length = 0
    · simp [fvOf, endF, endC, okC, hn]
    · simp [fvOf, endF, endC, okC, hn, show 0 < bs.length by omega]
  · simp [fvOf, endF, endC, okC]
  · simp [fvOf, endF, endC, okC]

theorem rdr_ne {v fv : Value} (hv : ∀ k n, v ≠ .int k n) (hf : isF fv) : ∀ (o : Nat) (q : Int), (#[v, fv] : Array Value)[o]? = some (Value.int .u8 q) → False := by
  intro o q h
  match o, h with
  | 0, h => simp at h; exact hv _ _ h
  | 1, h =>
    simp at h
    rcases hf with rfl | ⟨a, rfl⟩
    · cases h
    · cases h
  | n + 2, h => simp at h

theorem apart_rs {b1 b2 : Nat} {w : World} {r s : Nat} {bs bs' : List UInt8} {fv : Value} {c : Nat} (hr : Rdr b1 w r bs fv) (hf : isF fv) (hs : RRd b2 w s bs' c) : r ≠ s := by
  rintro rfl
  obtain ⟨v, h1, _⟩ := hr
  obtain ⟨v', h2, _⟩ := hs
  rw [h1] at h2
  simp at h2
theorem RRd.but {b1 b2 : Nat} {w w' : World} {r s : Nat} {bs bs' : List UInt8} {fv : Value} {c : Nat} (hs : RRd b2 w s bs' c) (hr : Rdr b1 w r bs fv) (hf : isF fv) (hu : But r w w') : RRd b2 w' s bs' c := by
  have hne := apart_rs hr hf hs
  have hl := hs.lt
  obtain ⟨v, h1, h2⟩ := hr
  obtain ⟨v', h3, h4⟩ := hs
  exact ⟨v', by rw [hu.block s hl (by simp; omega)]; exact h3, sl_other h4 h1 (rdr_ne h2.ne_int hf) hu⟩
theorem Rdr.but {b1 b2 : Nat} {w w' : World} {r s : Nat} {bs bs' : List UInt8} {fv : Value} {c : Nat} (hr : Rdr b1 w r bs fv) (hf : isF fv) (hs : RRd b2 w s bs' c) (hu : But s w w') : Rdr b1 w' r bs fv := by
  have hne := apart_rs hr hf hs
  have hl := hr.lt
  obtain ⟨v, h1, h2⟩ := hr
  obtain ⟨v', h3, h4⟩ := hs
  exact ⟨v, by rw [hu.block r hl (by simp; omega)]; exact h1, sl_other h2 h3 (rrd_ne h4.ne_int) hu⟩
theorem ErrSet.rrd {base : Nat} {S : List Nat} {txt : Nat → List UInt8} {w w' : World} {ad : Nat → Addr} {r : Nat} {bs : List UInt8} {c : Nat} (h : ErrSet S txt w ad) (hr : RRd base w r bs c) (hb : But r w w') : ErrSet S txt w' ad := by
  obtain ⟨v, h1, h2⟩ := hr
  intro g hg
  obtain ⟨k1, k2⟩ := h g hg
  refine ⟨k1.but ?_ hb, k2.but ?_ hb⟩
  · rintro rfl
    obtain ⟨t, k1⟩ := k1
    rw [k1] at h1
    simp at h1
  · intro e
    obtain ⟨x, hx, _⟩ := k2.cell
    rw [← e] at h1
    obtain ⟨ao, cap, rfl, _⟩ := h2
    simp only [World.cell?, h1] at hx
    split at hx
    · cases hx
    · match (ad g).off, hx with
      | 0, hx => simp at hx
      | 1, hx => simp at hx
      | n + 2, hx => simp at hx

/-- Of a fault of a reader. -/
theorem Of_fv (txt : Nat → List UInt8) (w : World) (ad : Nat → Addr) (h : ErrSet allErrs txt w ad) (hu : Unlike txt) (c : Nat) (hc : okC c) :
    Calls Tryd.prog 60 #[fvOf (ad 0) (ad 1) c] w fun e w' => e = .returned (.int .i64 (c : Int)) ∧ w' = w := by
  rcases hc with rfl | rfl | rfl
  · exact Of_none w
  · exact Of_Short txt w ad h hu
  · exact Of_Form txt w ad h hu

set_option maxHeartbeats 800000 in
theorem told_any (b1 b2 : Nat) (r s : Nat) (bs : List UInt8) (c : Nat) (txt : Nat → List UInt8) (ad : Nat → Addr) (w : World) (h : ErrSet allErrs txt w ad) (hu : Unlike txt) (hc : okC c)
    (hr : Rdr b1 w r bs (fvOf (ad 0) (ad 1) c)) (hs : RRd b2 w s bs c) :
    Calls Tryd.prog 14 #[.pointer (some ⟨r, 0, none⟩), .pointer (some ⟨s, 0, none⟩)] w fun e w' => e = .returned (.bool true) ∧ w' = w := by
  obtain ⟨e1, e2⟩ := end_c (ad 0) (ad 1) bs c hc
  have i1 := Is_of _ c c w (Of_fv txt w ad h hu c hc)
  have i2 := Is_of _ (endC bs c) (endC bs c) w (Of_fv txt w ad h hu _ e2)
  have k3 := End_any b1 r bs _ (ad 1) w hr (fvOf_is _ _ c) (h 1 (by decide)).1
  rw [e1] at k3
  simp only [decide_true] at i1 i2
  go_enter Tryd.func14, Tryd.ntmps14
  go_wp2_with fail
  refine (Left_any b1 r bs _ _ hr).mono ?_
  rintro e w1 ⟨rfl, rfl⟩
  go_wp2_with fail
  refine (rLeft_any b2 s bs c _ hs).mono ?_
  rintro e w1 ⟨rfl, rfl⟩
  go_wp2_with fail
  refine (Err_any b1 r bs _ _ hr).mono ?_
  rintro e w1 ⟨rfl, rfl⟩
  go_wp2_with fail
  refine (rErr_any b2 s bs c _ hs).mono ?_
  rintro e w1 ⟨rfl, rfl⟩
  go_wp2_with fail
  refine i1.mono ?_
  rintro e w1 ⟨rfl, rfl⟩
  go_wp2_with fail
  refine k3.mono ?_
  rintro e w1 ⟨rfl, rfl⟩
  go_wp2_with fail
  refine (rEnd_any b2 s bs c _ hs).mono ?_
  rintro e w1 ⟨rfl, rfl⟩
  go_wp2_with fail
  refine i2.mono ?_
  rintro e w1 ⟨rfl, rfl⟩
  go_wp2
  go_ret
  exact ⟨rfl, rfl⟩

/-! A nil reader of the reference. -/
theorem rnil_little (n : Nat) (w : World) : Calls Tryd.prog 61 #[.pointer none, .int .i64 n] w fun e w' => e = .returned (.int .u64 0) ∧ w' = w := by
  go_enter Tryd.func61, Tryd.ntmps61
  go_wp2
  go_ret
  exact ⟨rfl, rfl⟩
theorem rnil_U8 (w : World) : Calls Tryd.prog 39 #[.pointer none] w fun e w' => e = .returned (.int .u8 0) ∧ w' = w := by
  go_enter Tryd.func39, Tryd.ntmps39
  go_wp2_with fail
  refine (rnil_little 1 _).mono ?_
  rintro e w1 ⟨rfl, rfl⟩
  go_wp2
  go_ret
  exact ⟨rfl, rfl⟩
theorem rnil_U16 (w : World) : Calls Tryd.prog 41 #[.pointer none] w fun e w' => e = .returned (.int .u16 0) ∧ w' = w := by
  go_enter Tryd.func41, Tryd.ntmps41
  go_wp2_with fail
  refine (rnil_little 2 _).mono ?_
  rintro e w1 ⟨rfl, rfl⟩
  go_wp2
  go_ret
  exact ⟨rfl, rfl⟩
theorem rnil_U32 (w : World) : Calls Tryd.prog 43 #[.pointer none] w fun e w' => e = .returned (.int .u32 0) ∧ w' = w := by
  go_enter Tryd.func43, Tryd.ntmps43
  go_wp2_with fail
  refine (rnil_little 4 _).mono ?_
  rintro e w1 ⟨rfl, rfl⟩
  go_wp2
  go_ret
  exact ⟨rfl, rfl⟩
theorem rnil_U64 (w : World) : Calls Tryd.prog 45 #[.pointer none] w fun e w' => e = .returned (.int .u64 0) ∧ w' = w := by
  go_enter Tryd.func45, Tryd.ntmps45
  go_wp2_with fail
  refine (rnil_little 8 _).mono ?_
  rintro e w1 ⟨rfl, rfl⟩
  go_wp2
  go_ret
  exact ⟨rfl, rfl⟩
theorem rnil_Text (w : World) : Calls Tryd.prog 46 #[.pointer none] w fun e w' => e = .returned (.string ⟨#[]⟩) ∧ w' = w := by
  go_enter Tryd.func46, Tryd.ntmps46
  go_wp2
  go_ret
  exact ⟨rfl, rfl⟩
theorem rnil_Number (w : World) : Calls Tryd.prog 47 #[.pointer none] w fun e w' => e = .returned (.int .u64 0) ∧ w' = w := by
  go_enter Tryd.func47, Tryd.ntmps47
  go_wp2
  go_ret
  exact ⟨rfl, rfl⟩
theorem rnil_Left (w : World) : Calls Tryd.prog 36 #[.pointer none] w fun e w' => e = .returned (.int .i64 0) ∧ w' = w := by
  go_enter Tryd.func36, Tryd.ntmps36
  go_wp2
  go_ret
  exact ⟨rfl, rfl⟩
theorem rnil_Err (w : World) : Calls Tryd.prog 37 #[.pointer none] w fun e w' => e = .returned (.int .i64 15) ∧ w' = w := by
  go_enter Tryd.func37, Tryd.ntmps37
  go_wp2
  go_ret
  exact ⟨rfl, rfl⟩
theorem rnil_End (w : World) : Calls Tryd.prog 38 #[.pointer none] w fun e w' => e = .returned (.int .i64 15) ∧ w' = w := by
  go_enter Tryd.func38, Tryd.ntmps38
  go_wp2
  go_ret
  exact ⟨rfl, rfl⟩

set_option maxHeartbeats 800000 in
theorem told_nil (txt : Nat → List UInt8) (ad : Nat → Addr) (w : World) (h : ErrSet allErrs txt w ad) (hu : Unlike txt) :
    Calls Tryd.prog 14 #[.pointer none, .pointer none] w fun e w' => e = .returned (.bool true) ∧ w' = w := by
  have i1 := Is_of _ 15 15 w (Of_Nil txt w ad h hu)
  simp only [decide_true] at i1
  have hN := (h 2 (by decide)).1
  go_enter Tryd.func14, Tryd.ntmps14
  go_wp2_with fail
  refine (nil_Left _).mono ?_
  rintro e w1 ⟨rfl, rfl⟩
  go_wp2_with fail
  refine (rnil_Left _).mono ?_
  rintro e w1 ⟨rfl, rfl⟩
  go_wp2_with fail
  refine (nil_Err _ _ hN).mono ?_
  rintro e w1 ⟨rfl, rfl⟩
  go_wp2_with fail
  refine (rnil_Err _).mono ?_
  rintro e w1 ⟨rfl, rfl⟩
  go_wp2_with fail
  refine i1.mono ?_
  rintro e w1 ⟨rfl, rfl⟩
  go_wp2_with fail
  refine (nil_End _ _ hN).mono ?_
  rintro e w1 ⟨rfl, rfl⟩
  go_wp2_with fail
  refine (rnil_End _).mono ?_
  rintro e w1 ⟨rfl, rfl⟩
  go_wp2_with fail
  refine i1.mono ?_
  rintro e w1 ⟨rfl, rfl⟩
  go_wp2
  go_ret
  exact ⟨rfl, rfl⟩

/-- What takes leaves of two readers that go side by side. -/
def Side (B b1 b2 : Nat) (r s : Nat) (ad : Nat → Addr) (txt : Nat → List UInt8) (n : Nat) (w w' : World) : Prop :=
  ∃ bs c, bs.length ≤ n ∧ okC c ∧ Rdr b1 w' r bs (fvOf (ad 0) (ad 1) c) ∧ RRd b2 w' s bs c ∧ ErrSet allErrs txt w' ad ∧ Below B w w'

theorem side_of {B b1 b2 r s n : Nat} {ad : Nat → Addr} {txt : Nat → List UInt8} {w w1 w2 : World} {bs bs' : List UInt8} {c c' : Nat} (hl : bs'.length ≤ bs.length) (hn : bs.length ≤ n) (hok : okC c') (hB : B ≤ r) (hB2 : B ≤ s) (hB3 : B ≤ w.heap.size)
    (h : ErrSet allErrs txt w ad) (hr : Rdr b1 w r bs (fvOf (ad 0) (ad 1) c)) (hs : RRd b2 w1 s bs c)
    (h1 : Rdr b1 w1 r bs' (fvOf (ad 0) (ad 1) c')) (hb1 : But r w w1) (h2 : RRd b2 w2 s bs' c') (hb2 : But s w1 w2) : Side B b1 b2 r s ad txt n w w2 := by
  refine ⟨bs', c', Nat.le_trans hl hn, hok, h1.but (fvOf_is _ _ _) hs hb2, h2, (h.rdr hr (fvOf_is _ _ _) hb1).rrd hs hb2, ?_⟩
  have s1 := hb1.size
  exact (hb1.below hB hB3).trans (hb2.below hB2 (by omega))

set_option maxHeartbeats 800000 in
theorem takes_U8 (B b1 b2 : Nat) (r s : Nat) (bs : List UInt8) (c : Nat) (k : Int) (hk : k = 1) (n : Nat) (txt : Nat → List UInt8) (ad : Nat → Addr) (w : World) (h : ErrSet allErrs txt w ad) (hc : okC c) (hn : bs.length ≤ n) (hl : bs.length ≤ 140737488351232)
    (hr : Rdr b1 w r bs (fvOf (ad 0) (ad 1) c)) (hs : RRd b2 w s bs c) (hB : B ≤ r) (hB2 : B ≤ s) (hB3 : B ≤ w.heap.size) :
    Calls Tryd.prog 15 #[.int .i64 k, .pointer (some ⟨r, 0, none⟩), .pointer (some ⟨s, 0, none⟩)] w fun e w' => e = .returned (.bool true) ∧ Side B b1 b2 r s ad txt n w w' := by
  obtain rfl : k = 1 := hk
  have hS := (h 0 (by decide)).1
  have hF := (h 1 (by decide)).1
  have hw := whole_c (ad 0) (ad 1) 1 bs c hc
  have kp := (U8_any b1 r bs _ _ w hr (fvOf_is _ _ c) hS)
  rw [hw.1, hw.2.1, hw.2.2.1] at kp
  have HW : Hid _ := hw
  clear hw
  go_enter Tryd.func15, Tryd.ntmps15
  go_wp2_with fail
  refine kp.mono ?_
  rintro e w1 ⟨rfl, h1, hb1⟩
  clear kp
  have hs1 := hs.but hr (fvOf_is _ _ c) hb1
  go_wp2_with fail
  refine (rU8_any b2 s bs c w1 hs1).mono ?_
  rintro e w2 ⟨rfl, h2, hb2⟩
  have hfin : Hid (Side B b1 b2 r s ad txt n w w2) := side_of HW.out.2.2.2.2 hn HW.out.2.2.2.1 hB hB2 hB3 h hr hs1 h1 hb1 h2 hb2
  clear h1 hb1 hs1 h2 hb2 hs hr h hS hF
  go_wp2
  go_ret
  exact ⟨rfl, hfin⟩

set_option maxHeartbeats 800000 in
theorem takes_U16 (B b1 b2 : Nat) (r s : Nat) (bs : List UInt8) (c : Nat) (k : Int) (hk : k = 2) (n : Nat) (txt : Nat → List UInt8) (ad : Nat → Addr) (w : World) (h : ErrSet allErrs txt w ad) (hc : okC c) (hn : bs.length ≤ n) (hl : bs.length ≤ 140737488351232)
    (hr : Rdr b1 w r bs (fvOf (ad 0) (ad 1) c)) (hs : RRd b2 w s bs c) (hB : B ≤ r) (hB2 : B ≤ s) (hB3 : B ≤ w.heap.size) :
    Calls Tryd.prog 15 #[.int .i64 k, .pointer (some ⟨r, 0, none⟩), .pointer (some ⟨s, 0, none⟩)] w fun e w' => e = .returned (.bool true) ∧ Side B b1 b2 r s ad txt n w w' := by
  obtain rfl : k = 2 := hk
  have hS := (h 0 (by decide)).1
  have hF := (h 1 (by decide)).1
  have hw := whole_c (ad 0) (ad 1) 2 bs c hc
  have kp := (U16_any b1 r bs _ _ w hr (fvOf_is _ _ c) hS)
  rw [hw.1, hw.2.1, hw.2.2.1] at kp
  have HW : Hid _ := hw
  clear hw
  go_enter Tryd.func15, Tryd.ntmps15
  go_wp2_with fail
  refine kp.mono ?_
  rintro e w1 ⟨rfl, h1, hb1⟩
  clear kp
  have hs1 := hs.but hr (fvOf_is _ _ c) hb1
  go_wp2_with fail
  refine (rU16_any b2 s bs c w1 hs1).mono ?_
  rintro e w2 ⟨rfl, h2, hb2⟩
  have hfin : Hid (Side B b1 b2 r s ad txt n w w2) := side_of HW.out.2.2.2.2 hn HW.out.2.2.2.1 hB hB2 hB3 h hr hs1 h1 hb1 h2 hb2
  clear h1 hb1 hs1 h2 hb2 hs hr h hS hF
  go_wp2
  go_ret
  exact ⟨rfl, hfin⟩

set_option maxHeartbeats 800000 in
theorem takes_U32 (B b1 b2 : Nat) (r s : Nat) (bs : List UInt8) (c : Nat) (k : Int) (hk : k = 3) (n : Nat) (txt : Nat → List UInt8) (ad : Nat → Addr) (w : World) (h : ErrSet allErrs txt w ad) (hc : okC c) (hn : bs.length ≤ n) (hl : bs.length ≤ 140737488351232)
    (hr : Rdr b1 w r bs (fvOf (ad 0) (ad 1) c)) (hs : RRd b2 w s bs c) (hB : B ≤ r) (hB2 : B ≤ s) (hB3 : B ≤ w.heap.size) :
    Calls Tryd.prog 15 #[.int .i64 k, .pointer (some ⟨r, 0, none⟩), .pointer (some ⟨s, 0, none⟩)] w fun e w' => e = .returned (.bool true) ∧ Side B b1 b2 r s ad txt n w w' := by
  obtain rfl : k = 3 := hk
  have hS := (h 0 (by decide)).1
  have hF := (h 1 (by decide)).1
  have hw := whole_c (ad 0) (ad 1) 4 bs c hc
  have kp := (U32_any b1 r bs _ _ w hr (fvOf_is _ _ c) hS)
  rw [hw.1, hw.2.1, hw.2.2.1] at kp
  have HW : Hid _ := hw
  clear hw
  go_enter Tryd.func15, Tryd.ntmps15
  go_wp2_with fail
  refine kp.mono ?_
  rintro e w1 ⟨rfl, h1, hb1⟩
  clear kp
  have hs1 := hs.but hr (fvOf_is _ _ c) hb1
  go_wp2_with fail
  refine (rU32_any b2 s bs c w1 hs1).mono ?_
  rintro e w2 ⟨rfl, h2, hb2⟩
  have hfin : Hid (Side B b1 b2 r s ad txt n w w2) := side_of HW.out.2.2.2.2 hn HW.out.2.2.2.1 hB hB2 hB3 h hr hs1 h1 hb1 h2 hb2
  clear h1 hb1 hs1 h2 hb2 hs hr h hS hF
  go_wp2
  go_ret
  exact ⟨rfl, hfin⟩

set_option maxHeartbeats 800000 in
theorem takes_U64 (B b1 b2 : Nat) (r s : Nat) (bs : List UInt8) (c : Nat) (k : Int) (hk : k = 4) (n : Nat) (txt : Nat → List UInt8) (ad : Nat → Addr) (w : World) (h : ErrSet allErrs txt w ad) (hc : okC c) (hn : bs.length ≤ n) (hl : bs.length ≤ 140737488351232)
    (hr : Rdr b1 w r bs (fvOf (ad 0) (ad 1) c)) (hs : RRd b2 w s bs c) (hB : B ≤ r) (hB2 : B ≤ s) (hB3 : B ≤ w.heap.size) :
    Calls Tryd.prog 15 #[.int .i64 k, .pointer (some ⟨r, 0, none⟩), .pointer (some ⟨s, 0, none⟩)] w fun e w' => e = .returned (.bool true) ∧ Side B b1 b2 r s ad txt n w w' := by
  obtain rfl : k = 4 := hk
  have hS := (h 0 (by decide)).1
  have hF := (h 1 (by decide)).1
  have hw := whole_c (ad 0) (ad 1) 8 bs c hc
  have kp := (U64_any b1 r bs _ _ w hr (fvOf_is _ _ c) hS)
  rw [hw.1, hw.2.1, hw.2.2.1] at kp
  have HW : Hid _ := hw
  clear hw
  go_enter Tryd.func15, Tryd.ntmps15
  go_wp2_with fail
  refine kp.mono ?_
  rintro e w1 ⟨rfl, h1, hb1⟩
  clear kp
  have hs1 := hs.but hr (fvOf_is _ _ c) hb1
  go_wp2_with fail
  refine (rU64_any b2 s bs c w1 hs1).mono ?_
  rintro e w2 ⟨rfl, h2, hb2⟩
  have hfin : Hid (Side B b1 b2 r s ad txt n w w2) := side_of HW.out.2.2.2.2 hn HW.out.2.2.2.1 hB hB2 hB3 h hr hs1 h1 hb1 h2 hb2
  clear h1 hb1 hs1 h2 hb2 hs hr h hS hF
  go_wp2
  go_ret
  exact ⟨rfl, hfin⟩

set_option maxHeartbeats 800000 in
theorem takes_Text (B b1 b2 : Nat) (r s : Nat) (bs : List UInt8) (c : Nat) (k : Int) (hk : k = 5) (n : Nat) (txt : Nat → List UInt8) (ad : Nat → Addr) (w : World) (h : ErrSet allErrs txt w ad) (hc : okC c) (hn : bs.length ≤ n) (hl : bs.length ≤ 140737488351232)
    (hr : Rdr b1 w r bs (fvOf (ad 0) (ad 1) c)) (hs : RRd b2 w s bs c) (hB : B ≤ r) (hB2 : B ≤ s) (hB3 : B ≤ w.heap.size) :
    Calls Tryd.prog 15 #[.int .i64 k, .pointer (some ⟨r, 0, none⟩), .pointer (some ⟨s, 0, none⟩)] w fun e w' => e = .returned (.bool true) ∧ Side B b1 b2 r s ad txt n w w' := by
  obtain rfl : k = 5 := hk
  have hS := (h 0 (by decide)).1
  have hF := (h 1 (by decide)).1
  have hw := text_c (ad 0) (ad 1) bs c hc
  have kp := (Text_any b1 r bs _ _ w hr (fvOf_is _ _ c) hS)
  rw [hw.1, hw.2.1, hw.2.2.1] at kp
  have HW : Hid _ := hw
  clear hw
  go_enter Tryd.func15, Tryd.ntmps15
  go_wp2_with fail
  refine kp.mono ?_
  rintro e w1 ⟨rfl, h1, hb1⟩
  clear kp
  have hs1 := hs.but hr (fvOf_is _ _ c) hb1
  go_wp2_with fail
  refine (rText_any b2 s bs c w1 hs1 hl).mono ?_
  rintro e w2 ⟨rfl, h2, hb2⟩
  have hfin : Hid (Side B b1 b2 r s ad txt n w w2) := side_of HW.out.2.2.2.2 hn HW.out.2.2.2.1 hB hB2 hB3 h hr hs1 h1 hb1 h2 hb2
  clear h1 hb1 hs1 h2 hb2 hs hr h hS hF
  go_wp2
  go_ret
  exact ⟨rfl, hfin⟩

set_option maxHeartbeats 800000 in
theorem takes_Number (B b1 b2 : Nat) (r s : Nat) (bs : List UInt8) (c : Nat) (k : Int) (hk : k ≠ 1 ∧ k ≠ 2 ∧ k ≠ 3 ∧ k ≠ 4 ∧ k ≠ 5) (n : Nat) (txt : Nat → List UInt8) (ad : Nat → Addr) (w : World) (h : ErrSet allErrs txt w ad) (hc : okC c) (hn : bs.length ≤ n) (hl : bs.length ≤ 140737488351232)
    (hr : Rdr b1 w r bs (fvOf (ad 0) (ad 1) c)) (hs : RRd b2 w s bs c) (hB : B ≤ r) (hB2 : B ≤ s) (hB3 : B ≤ w.heap.size) :
    Calls Tryd.prog 15 #[.int .i64 k, .pointer (some ⟨r, 0, none⟩), .pointer (some ⟨s, 0, none⟩)] w fun e w' => e = .returned (.bool true) ∧ Side B b1 b2 r s ad txt n w w' := by
  obtain ⟨k1, k2, k3, k4, k5⟩ := hk
  have g1 : (k == 1) = false := by simp; omega
  have g2 : (k == 2) = false := by simp; omega
  have g3 : (k == 3) = false := by simp; omega
  have g4 : (k == 4) = false := by simp; omega
  have g5 : (k == 5) = false := by simp; omega
  clear k1 k2 k3 k4 k5
  have hS := (h 0 (by decide)).1
  have hF := (h 1 (by decide)).1
  have hw := num_c (ad 0) (ad 1) bs c hc
  have kp := (Number_any b1 r bs _ _ _ w hr (fvOf_is _ _ c) hS hF hl)
  rw [hw.1, hw.2.1, hw.2.2.1] at kp
  have HW : Hid _ := hw
  clear hw
  go_enter Tryd.func15, Tryd.ntmps15
  go_wp2_with fail
  refine kp.mono ?_
  rintro e w1 ⟨rfl, h1, hb1⟩
  clear kp
  have hs1 := hs.but hr (fvOf_is _ _ c) hb1
  go_wp2_with fail
  refine (rNumber_any b2 s bs c w1 hs1 hl).mono ?_
  rintro e w2 ⟨rfl, h2, hb2⟩
  have hfin : Hid (Side B b1 b2 r s ad txt n w w2) := side_of HW.out.2.2.2.2 hn HW.out.2.2.2.1 hB hB2 hB3 h hr hs1 h1 hb1 h2 hb2
  clear h1 hb1 hs1 h2 hb2 hs hr h hS hF
  go_wp2
  go_ret
  exact ⟨rfl, hfin⟩

theorem takes_any (B b1 b2 : Nat) (r s : Nat) (bs : List UInt8) (c : Nat) (k : Int) (n : Nat) (txt : Nat → List UInt8) (ad : Nat → Addr) (w : World) (h : ErrSet allErrs txt w ad) (hc : okC c) (hn : bs.length ≤ n) (hl : bs.length ≤ 140737488351232)
    (hr : Rdr b1 w r bs (fvOf (ad 0) (ad 1) c)) (hs : RRd b2 w s bs c) (hB : B ≤ r) (hB2 : B ≤ s) (hB3 : B ≤ w.heap.size) :
    Calls Tryd.prog 15 #[.int .i64 k, .pointer (some ⟨r, 0, none⟩), .pointer (some ⟨s, 0, none⟩)] w fun e w' => e = .returned (.bool true) ∧ Side B b1 b2 r s ad txt n w w' := by
  by_cases h1 : k = 1
  · exact takes_U8 B b1 b2 r s bs c k h1 n txt ad w h hc hn hl hr hs hB hB2 hB3
  by_cases h2 : k = 2
  · exact takes_U16 B b1 b2 r s bs c k h2 n txt ad w h hc hn hl hr hs hB hB2 hB3
  by_cases h3 : k = 3
  · exact takes_U32 B b1 b2 r s bs c k h3 n txt ad w h hc hn hl hr hs hB hB2 hB3
  by_cases h4 : k = 4
  · exact takes_U64 B b1 b2 r s bs c k h4 n txt ad w h hc hn hl hr hs hB hB2 hB3
  by_cases h5 : k = 5
  · exact takes_Text B b1 b2 r s bs c k h5 n txt ad w h hc hn hl hr hs hB hB2 hB3
  · exact takes_Number B b1 b2 r s bs c k ⟨h1, h2, h3, h4, h5⟩ n txt ad w h hc hn hl hr hs hB hB2 hB3

set_option maxHeartbeats 1600000 in
theorem takes_nil (k : Int) (w : World) :
    Calls Tryd.prog 15 #[.int .i64 k, .pointer none, .pointer none] w fun e w' => e = .returned (.bool true) ∧ w' = w := by
  by_cases h1 : k = 1
  · subst h1
    go_enter Tryd.func15, Tryd.ntmps15
    go_wp2_with fail
    refine (nil_U8 _).mono ?_
    rintro e w1 ⟨rfl, rfl⟩
    go_wp2_with fail
    refine (rnil_U8 _).mono ?_
    rintro e w1 ⟨rfl, rfl⟩
    go_wp2
    go_ret
    exact ⟨rfl, rfl⟩
  by_cases h2 : k = 2
  · subst h2
    go_enter Tryd.func15, Tryd.ntmps15
    go_wp2_with fail
    refine (nil_U16 _).mono ?_
    rintro e w1 ⟨rfl, rfl⟩
    go_wp2_with fail
    refine (rnil_U16 _).mono ?_
    rintro e w1 ⟨rfl, rfl⟩
    go_wp2
    go_ret
    exact ⟨rfl, rfl⟩
  by_cases h3 : k = 3
  · subst h3
    go_enter Tryd.func15, Tryd.ntmps15
    go_wp2_with fail
    refine (nil_U32 _).mono ?_
    rintro e w1 ⟨rfl, rfl⟩
    go_wp2_with fail
    refine (rnil_U32 _).mono ?_
    rintro e w1 ⟨rfl, rfl⟩
    go_wp2
    go_ret
    exact ⟨rfl, rfl⟩
  by_cases h4 : k = 4
  · subst h4
    go_enter Tryd.func15, Tryd.ntmps15
    go_wp2_with fail
    refine (nil_U64 _).mono ?_
    rintro e w1 ⟨rfl, rfl⟩
    go_wp2_with fail
    refine (rnil_U64 _).mono ?_
    rintro e w1 ⟨rfl, rfl⟩
    go_wp2
    go_ret
    exact ⟨rfl, rfl⟩
  by_cases h5 : k = 5
  · subst h5
    go_enter Tryd.func15, Tryd.ntmps15
    go_wp2_with fail
    refine (nil_Text _).mono ?_
    rintro e w1 ⟨rfl, rfl⟩
    go_wp2_with fail
    refine (rnil_Text _).mono ?_
    rintro e w1 ⟨rfl, rfl⟩
    go_wp2
    go_ret
    exact ⟨rfl, rfl⟩
  have g1 : (k == 1) = false := by simp; omega
  have g2 : (k == 2) = false := by simp; omega
  have g3 : (k == 3) = false := by simp; omega
  have g4 : (k == 4) = false := by simp; omega
  have g5 : (k == 5) = false := by simp; omega
  clear h1 h2 h3 h4 h5
  go_enter Tryd.func15, Tryd.ntmps15
  go_wp2_with fail
  refine (nil_Number _).mono ?_
  rintro e w1 ⟨rfl, rfl⟩
  go_wp2_with fail
  refine (rnil_Number _).mono ?_
  rintro e w1 ⟨rfl, rfl⟩
  go_wp2
  go_ret
  exact ⟨rfl, rfl⟩
end Go.Proofs.YtpjpjoefmnnpmaaDoor

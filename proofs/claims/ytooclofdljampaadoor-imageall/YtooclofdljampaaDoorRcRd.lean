/- record: a reader of pack as a state: the bytes that are left, or none behind a fault; what its calls answer and leave. -/
import Derived.Test.YtooclofdljampaaDoorMiH
import Derived.Test.YtooclofdljampaaDoorMiC
import Derived.Test.YtooclofdljampaaDoorBox
set_option linter.unusedVariables false
set_option linter.unusedSimpArgs false
namespace Go.Proofs.YtooclofdljampaaDoor
open Go Go.RowKit

theorem le_blR : ∀ n x, le n x = bl n x
  | 0, _ => rfl
  | n + 1, x => by rw [le, bl, le_blR n]
theorem unle_lbR : ∀ bs, unle bs = lb bs
  | [] => rfl
  | c :: r => by rw [unle, lb, unle_lbR r]

/-- The next n bytes as a number, and what is left. -/
def rdA (n : Nat) : Option (List UInt8) → Nat × Option (List UInt8)
  | none => (0, none)
  | some bs => if bs.length < n then (0, none) else (lb (bs.take n), some (bs.drop n))
def rdTA : Option (List UInt8) → List UInt8 × Option (List UInt8)
  | none => ([], none)
  | some bs => if bs.length < 2 then ([], none) else if (bs.drop 2).length < lb (bs.take 2) then ([], none) else ((bs.drop 2).take (lb (bs.take 2)), some ((bs.drop 2).drop (lb (bs.take 2))))

theorem rdA_lt (n : Nat) (st : Option (List UInt8)) : (rdA n st).1 < 256 ^ n := by
  have h1 : 0 < 256 ^ n := Nat.pow_pos (by omega)
  cases st with
  | none => exact h1
  | some bs =>
    simp only [rdA]
    split
    · exact h1
    · have := lb_lt (bs.take n)
      rwa [show (bs.take n).length = n by simp; omega] at this
theorem rdTA_lt (st : Option (List UInt8)) : (rdTA st).1.length < 65536 := by
  cases st with
  | none => simp [rdTA]
  | some bs =>
    simp only [rdTA]
    split
    · simp
    · split
      · simp
      · have := lb_lt (bs.take 2)
        rw [show (bs.take 2).length = 2 by simp; omega] at this
        rw [List.length_take]
        omega
theorem rdA_none (n : Nat) : rdA n none = (0, none) := rfl
theorem rdTA_none : rdTA none = ([], none) := rfl

theorem glr_ne {P : Nat → Prop} {g r : Nat} {a : Addr} {w : World} {bs : List UInt8} {fv : Value} (h : Gl w g a) (hr : RdrP P w r bs fv) : g ≠ r := by
  rintro rfl
  obtain ⟨t, h⟩ := h
  obtain ⟨v, h2, _⟩ := hr
  rw [h] at h2
  simp at h2
theorem glr_but {g r : Nat} {a : Addr} {w w' : World} (h : Gl w g a) (hne : g ≠ r) (hb : But r w w') : Gl w' g a := by
  have hl := h.lt
  obtain ⟨t, h⟩ := h
  exact ⟨t, by rw [hb.block g hl (by intro e; exact hne (Option.some.inj e))]; exact h⟩
theorem glr_below {g B : Nat} {a : Addr} {w w' : World} (h : Gl w g a) (hg : g < B) (hb : Below B w w') : Gl w' g a := by
  obtain ⟨t, h⟩ := h
  exact ⟨t, by rw [hb.block g hg]; exact h⟩
theorem rdrR_below {B : Nat} {w w' : World} {r : Nat} {bs : List UInt8} {fv : Value} (h : RdrP (fun b => b < B) w r bs fv) (hb : Below B w w') (hr : r < B) : RdrP (fun b => b < B) w' r bs fv := by
  obtain ⟨v, h1, ao, cap, rfl, h2, h3, hx⟩ := h
  refine ⟨_, by rw [hb.block r hr]; exact h1, ao, cap, rfl, h2, h3, fun hne => ?_⟩
  obtain ⟨b, o, e, hlt, ha⟩ := hx hne
  exact ⟨b, o, e, hlt, fun i hi => by rw [hb.cell hlt]; exact ha i hi⟩
theorem Rdr.pR {base : Nat} {w : World} {r : Nat} {bs : List UInt8} {fv : Value} (h : Rdr base w r bs fv) : RdrP (fun b => b < w.heap.size) w r bs fv := by
  obtain ⟨v, h1, ao, cap, rfl, h2, h3, hx⟩ := h
  refine ⟨_, h1, ao, cap, rfl, h2, h3, fun hne => ?_⟩
  obtain ⟨b, o, e, _, ha⟩ := hx hne
  exact ⟨b, o, e, ha.lt hne, ha⟩
theorem Box.but {w w' : World} {k r : Nat} {cs : Array Value} (h : Box w k cs) (hb : But r w w') (hne : k ≠ r) : Box w' k cs := by
  have hl := h.lt
  obtain ⟨t, h⟩ := h
  exact ⟨t, by rw [hb.block k hl (by intro e; exact hne (Option.some.inj e))]; exact h⟩

def RdSt (B : Nat) (w : World) (r : Nat) (aS : Addr) : Option (List UInt8) → Prop
  | some bs => RdrP (fun b => b < B) w r bs .nilIface
  | none => ∃ bs, RdrP (fun b => b < B) w r bs (E aS)
/-- The reader r, all of whose blocks lie below B, in the state st. -/
structure RdS (B : Nat) (w : World) (r : Nat) (aS aF : Addr) (st : Option (List UInt8)) : Prop where
  lt : r < B
  sz : B ≤ w.heap.size
  rd : RdSt B w r aS st
  gs : Gl w 1 aS
  gf : Gl w 2 aF
  ls : 1 < B
  lf : 2 < B

theorem RdS.below {B : Nat} {w w' : World} {r : Nat} {aS aF : Addr} {st : Option (List UInt8)} (h : RdS B w r aS aF st) (hb : Below B w w') : RdS B w' r aS aF st := by
  refine ⟨h.lt, Nat.le_trans h.sz hb.size, ?_, glr_below h.gs h.ls hb, glr_below h.gf h.lf hb, h.ls, h.lf⟩
  have := h.rd
  cases st with
  | none => obtain ⟨bs, k⟩ := this; exact ⟨bs, rdrR_below k hb h.lt⟩
  | some bs => exact rdrR_below this hb h.lt
theorem RdS.ne {B : Nat} {w : World} {r : Nat} {aS aF : Addr} {st : Option (List UInt8)} (h : RdS B w r aS aF st) : 1 ≠ r ∧ 2 ≠ r := by
  have := h.rd
  cases st with
  | none => obtain ⟨bs, k⟩ := this; exact ⟨glr_ne h.gs k, glr_ne h.gf k⟩
  | some bs => exact ⟨glr_ne h.gs this, glr_ne h.gf this⟩
theorem RdS.read {B : Nat} {w w' : World} {r : Nat} {aS aF : Addr} {st st' : Option (List UInt8)} (h : RdS B w r aS aF st) (hb : But r w w') (k : RdSt B w' r aS st') : RdS B w' r aS aF st' :=
  ⟨h.lt, Nat.le_trans h.sz hb.size, k, glr_but h.gs h.ne.1 hb, glr_but h.gf h.ne.2 hb, h.ls, h.lf⟩
/-- Its bytes and fault, for the calls' own contracts. -/
theorem RdS.whole {B : Nat} {w : World} {r : Nat} {aS aF : Addr} {st : Option (List UInt8)} (h : RdS B w r aS aF st) (n : Nat) : ∃ bs fv, isF fv ∧ RdrP (fun b => b < B) w r bs fv ∧ wholeA n bs fv = (rdA n st).1 ∧
    ∀ w', RdrP (fun b => b < B) w' r (wholeL n bs fv) (wholeF aS n bs fv) → RdSt B w' r aS (rdA n st).2 := by
  have := h.rd
  cases st with
  | none =>
    obtain ⟨bs, k⟩ := this
    exact ⟨bs, E aS, .inr ⟨aS, rfl⟩, k, rfl, fun w' k' => ⟨bs, k'⟩⟩
  | some bs =>
    refine ⟨bs, .nilIface, .inl rfl, this, ?_, ?_⟩
    · simp only [wholeA, rdA]
      by_cases hn : bs.length < n
      · rw [if_neg (by omega), if_pos hn]
      · rw [if_pos (by omega), if_neg hn, unle_lbR]
    · intro w' k
      simp only [wholeL, wholeF, rdA] at k ⊢
      by_cases hn : bs.length < n
      · rw [if_neg (by omega), if_neg (by omega)] at k
        rw [if_pos hn]
        exact ⟨bs, k⟩
      · rw [if_pos (by omega), if_pos (by omega)] at k
        rw [if_neg hn]
        exact k
theorem RdS.text {B : Nat} {w : World} {r : Nat} {aS aF : Addr} {st : Option (List UInt8)} (h : RdS B w r aS aF st) : ∃ bs fv, isF fv ∧ RdrP (fun b => b < B) w r bs fv ∧ textA bs fv = (rdTA st).1 ∧
    ∀ w', RdrP (fun b => b < B) w' r (textL bs fv) (textF aS bs fv) → RdSt B w' r aS (rdTA st).2 := by
  have := h.rd
  cases st with
  | none =>
    obtain ⟨bs, k⟩ := this
    exact ⟨bs, E aS, .inr ⟨aS, rfl⟩, k, rfl, fun w' k' => ⟨bs, k'⟩⟩
  | some bs =>
    have hk : textOk bs ↔ ¬ bs.length < 2 ∧ ¬ (bs.drop 2).length < lb (bs.take 2) := by
      unfold textOk
      rw [unle_lbR, List.length_drop]
      omega
    refine ⟨bs, .nilIface, .inl rfl, this, ?_, ?_⟩
    · simp only [textA, rdTA]
      by_cases h1 : bs.length < 2
      · rw [if_neg (fun q => (hk.1 q).1 h1), if_pos h1]
      · by_cases h2 : (bs.drop 2).length < lb (bs.take 2)
        · rw [if_neg (fun q => (hk.1 q).2 h2), if_neg h1, if_pos h2]
        · rw [if_pos (hk.2 ⟨h1, h2⟩), if_neg h1, if_neg h2, unle_lbR]
    · intro w' k
      simp only [textL, textF, rdTA] at k ⊢
      by_cases h1 : bs.length < 2
      · rw [if_neg (fun q => (hk.1 q).1 h1), if_neg (fun q => (hk.1 q).1 h1)] at k
        rw [if_pos h1]
        exact ⟨bs, k⟩
      · by_cases h2 : (bs.drop 2).length < lb (bs.take 2)
        · rw [if_neg (fun q => (hk.1 q).2 h2), if_neg (fun q => (hk.1 q).2 h2)] at k
          rw [if_neg h1, if_pos h2]
          exact ⟨bs, k⟩
        · rw [if_pos (hk.2 ⟨h1, h2⟩), if_pos (hk.2 ⟨h1, h2⟩), unle_lbR, ← List.drop_drop] at k
          rw [if_neg h1, if_neg h2]
          exact k

theorem U8_S {B : Nat} {w : World} {r : Nat} {aS aF : Addr} {st : Option (List UInt8)} (h : RdS B w r aS aF st) :
    Calls Tryd.prog 63 #[.pointer (some ⟨r, 0, none⟩)] w fun e w' => e = .returned (.int .u8 ((rdA 1 st).1 : Nat)) ∧ RdS B w' r aS aF (rdA 1 st).2 ∧ But r w w' := by
  obtain ⟨bs, fv, hf, hr, e1, hk⟩ := h.whole 1
  refine (U8_anyP _ r bs fv aS w hr hf h.gs).mono ?_
  rintro e w' ⟨rfl, k1, k2⟩
  exact ⟨by rw [e1], h.read k2 (hk w' k1), k2⟩
theorem U64_S {B : Nat} {w : World} {r : Nat} {aS aF : Addr} {st : Option (List UInt8)} (h : RdS B w r aS aF st) :
    Calls Tryd.prog 46 #[.pointer (some ⟨r, 0, none⟩)] w fun e w' => e = .returned (.int .u64 ((rdA 8 st).1 : Nat)) ∧ RdS B w' r aS aF (rdA 8 st).2 ∧ But r w w' := by
  obtain ⟨bs, fv, hf, hr, e1, hk⟩ := h.whole 8
  refine (U64_anyP _ r bs fv aS w hr hf h.gs).mono ?_
  rintro e w' ⟨rfl, k1, k2⟩
  exact ⟨by rw [e1], h.read k2 (hk w' k1), k2⟩
theorem Text_S {B : Nat} {w : World} {r : Nat} {aS aF : Addr} {st : Option (List UInt8)} (h : RdS B w r aS aF st) :
    Calls Tryd.prog 62 #[.pointer (some ⟨r, 0, none⟩)] w fun e w' => e = .returned (.string ⟨(rdTA st).1.toArray⟩) ∧ RdS B w' r aS aF (rdTA st).2 ∧ But r w w' := by
  obtain ⟨bs, fv, hf, hr, e1, hk⟩ := h.text
  refine (Text_anyP _ r bs fv aS w hr hf h.gs).mono ?_
  rintro e w' ⟨rfl, k1, k2⟩
  exact ⟨by rw [e1], h.read k2 (hk w' k1), k2⟩
theorem Err_S {B : Nat} {w : World} {r : Nat} {aS aF : Addr} {st : Option (List UInt8)} (h : RdS B w r aS aF st) :
    Calls Tryd.prog 82 #[.pointer (some ⟨r, 0, none⟩)] w fun e w' => e = .returned (if st = none then E aS else .nilIface) ∧ w' = w := by
  have := h.rd
  cases st with
  | none => obtain ⟨bs, k⟩ := this; exact Err_anyP _ r bs _ w k
  | some bs => exact Err_anyP _ r bs _ w this

/-- What End answers. -/
def endA (aS aF : Addr) : Option (List UInt8) → Value
  | none => E aS
  | some [] => .nilIface
  | some _ => E aF
end Go.Proofs.YtooclofdljampaaDoor

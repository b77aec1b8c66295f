/- Merged: DkCon, DkFil, DkLib. -/
import Derived.WalkKit
import Derived.Test.YtdddfapelencoaaDoorBox
set_option linter.unusedVariables false
namespace Go.Proofs.YtdddfapelencoaaDoor
open Go Go.RowKit

/-- How many sectors n bytes have. -/
def sec (n : Nat) : Nat := (n + 511) / 512

/-- d laid over l from s on; zeros where there was nothing. -/
def over (l : List UInt8) (s : Nat) (d : List UInt8) : List UInt8 :=
  (l ++ List.replicate (s + d.length - l.length) 0).take s ++ d ++ (l ++ List.replicate (s + d.length - l.length) 0).drop (s + d.length)

/-- Sector i of l. -/
def sect (l : List UInt8) (i : Nat) : List UInt8 := (l.drop (512 * i)).take 512

theorem over_length (l : List UInt8) (s : Nat) (d : List UInt8) : (over l s d).length = max l.length (s + d.length) := by
  simp only [over, List.length_append, List.length_take, List.length_drop, List.length_replicate]; omega

theorem getD_app (a b : List UInt8) (p : Nat) : (a ++ b).getD p 0 = if p < a.length then a.getD p 0 else b.getD (p - a.length) 0 := by
  simp only [List.getD_eq_getElem?_getD, List.getElem?_append]
  split <;> rfl

theorem getD_pad (l : List UInt8) (n p : Nat) : (l ++ List.replicate n 0).getD p 0 = l.getD p 0 := by
  rw [getD_app]
  split
  · rfl
  · rename_i h
    simp only [List.getD_eq_getElem?_getD, List.getElem?_replicate]
    have e : l[p]? = none := List.getElem?_eq_none (by omega)
    rw [e]
    split <;> rfl

theorem getD_take (l : List UInt8) (n p : Nat) : (l.take n).getD p 0 = if p < n then l.getD p 0 else 0 := by
  simp only [List.getD_eq_getElem?_getD, List.getElem?_take]
  split <;> rfl

theorem getD_drop (l : List UInt8) (n p : Nat) : (l.drop n).getD p 0 = l.getD (n + p) 0 := by
  simp only [List.getD_eq_getElem?_getD, List.getElem?_drop]

theorem getD_far (l : List UInt8) (p : Nat) (h : l.length ≤ p) : l.getD p 0 = 0 := by
  simp only [List.getD_eq_getElem?_getD, List.getElem?_eq_none h]; rfl

theorem getD_zeros (n p : Nat) : (List.replicate n (0 : UInt8)).getD p 0 = 0 := by
  simp only [List.getD_eq_getElem?_getD, List.getElem?_replicate]
  split <;> rfl

theorem over_get (l : List UInt8) (s : Nat) (d : List UInt8) (p : Nat) :
    (over l s d).getD p 0 = if s ≤ p ∧ p < s + d.length then d.getD (p - s) 0 else l.getD p 0 := by
  unfold over
  generalize hz : l ++ List.replicate (s + d.length - l.length) 0 = z
  have hl : s + d.length ≤ z.length := by rw [← hz]; simp only [List.length_append, List.length_replicate]; omega
  have hp : ∀ q, z.getD q 0 = l.getD q 0 := fun q => by rw [← hz, getD_pad]
  have ht : (z.take s).length = s := by rw [List.length_take]; omega
  rw [getD_app, getD_app, List.length_append, ht, getD_take, getD_drop]
  by_cases h1 : p < s
  · rw [if_pos (by omega), if_pos h1, if_pos h1, if_neg (by omega), hp]
  · by_cases h2 : p < s + d.length
    · rw [if_pos h2, if_neg h1, if_pos ⟨by omega, h2⟩]
    · rw [if_neg h2, if_neg (by omega), hp, show s + d.length + (p - (s + d.length)) = p by omega]

/-- Bytes are told by how many they are and what stands at each place. -/
theorem bytes_ext {l m : List UInt8} (hl : l.length = m.length) (h : ∀ p, p < l.length → l.getD p 0 = m.getD p 0) : l = m := by
  refine List.ext_getElem hl fun i h1 h2 => ?_
  have e := h i h1
  simpa only [List.getD_eq_getElem?_getD, List.getElem?_eq_getElem h1, List.getElem?_eq_getElem h2, Option.getD_some] using e

theorem over_end (l d : List UInt8) : over l l.length d = l ++ d := by
  refine bytes_ext (by rw [over_length, List.length_append]; omega) fun p _ => ?_
  rw [over_get, getD_app]
  by_cases h : p < l.length
  · rw [if_neg (by omega), if_pos h]
  · rw [if_neg h]
    by_cases h2 : p < l.length + d.length
    · rw [if_pos ⟨by omega, h2⟩]
    · rw [if_neg (by omega), getD_far _ _ (by omega), getD_far _ _ (by omega)]

theorem sect_length (l : List UInt8) (i : Nat) : (sect l i).length = min 512 (l.length - 512 * i) := by
  simp only [sect, List.length_take, List.length_drop]

theorem sect_get (l : List UInt8) (i p : Nat) : (sect l i).getD p 0 = if p < 512 then l.getD (512 * i + p) 0 else 0 := by
  unfold sect
  rw [getD_take, getD_drop]

/-- How many of the numbers are below x. -/
def cnt (bad : List Nat) (x : Nat) : Nat := bad.countP fun i => decide (i < x)

theorem cnt_le (bad : List Nat) (x : Nat) : cnt bad x ≤ bad.length := List.countP_le_length
theorem cnt_mono (bad : List Nat) {x y : Nat} (h : x ≤ y) : cnt bad x ≤ cnt bad y :=
  List.countP_mono_left fun i _ hi => by simp only [decide_eq_true_eq] at *; omega

theorem take_cnt : ∀ (bad : List Nat) (x : Nat), bad.Pairwise (· < ·) → bad.take (cnt bad x) = bad.filter fun i => decide (i < x)
  | [], _, _ => rfl
  | a :: bad, x, h => by
    have hp := List.pairwise_cons.1 h
    have ih := take_cnt bad x hp.2
    unfold cnt at *
    by_cases ha : a < x
    · rw [List.countP_cons_of_pos (by simpa using ha), List.take_succ_cons, List.filter_cons_of_pos (by simpa using ha), ih]
    · have hn : ∀ b ∈ bad, ¬ b < x := fun b hb => by have := hp.1 b hb; omega
      have h0 : bad.countP (fun i => decide (i < x)) = 0 := List.countP_eq_zero.2 fun b hb => by simpa using hn b hb
      rw [List.countP_cons_of_neg (by simpa using ha), h0, List.take_zero, List.filter_cons_of_neg (by simpa using ha)]
      exact (List.filter_eq_nil_iff.2 fun b hb => by simpa using hn b hb).symm

theorem drop_cnt : ∀ (bad : List Nat) (x : Nat), bad.Pairwise (· < ·) → bad.drop (cnt bad x) = bad.filter fun i => decide (x ≤ i)
  | [], _, _ => rfl
  | a :: bad, x, h => by
    have hp := List.pairwise_cons.1 h
    have ih := drop_cnt bad x hp.2
    unfold cnt at *
    by_cases ha : a < x
    · rw [List.countP_cons_of_pos (by simpa using ha), List.drop_succ_cons, List.filter_cons_of_neg (by simpa using ha), ih]
    · have hn : ∀ b ∈ bad, ¬ b < x := fun b hb => by have := hp.1 b hb; omega
      have h0 : bad.countP (fun i => decide (i < x)) = 0 := List.countP_eq_zero.2 fun b hb => by simpa using hn b hb
      rw [List.countP_cons_of_neg (by simpa using ha), h0, List.drop_zero]
      refine (List.filter_eq_self.2 fun b hb => ?_).symm
      rcases List.mem_cons.1 hb with rfl | hb
      · simpa using ha
      · have := hp.1 b hb; simp only [decide_eq_true_eq]; omega

/-- The numbers with those from a up to b left out. -/
def cutOut (bad : List Nat) (a b : Nat) : List Nat := bad.take (cnt bad a) ++ bad.drop (cnt bad b)
/-- i put at its place. -/
def putIn (bad : List Nat) (i : Nat) : List Nat := bad.take (cnt bad i) ++ i :: bad.drop (cnt bad i)

theorem rise_cutOut {bad : List Nat} (h : bad.Pairwise (· < ·)) {a b : Nat} (hab : a ≤ b) : (cutOut bad a b).Pairwise (· < ·) := by
  unfold cutOut
  rw [take_cnt _ _ h, drop_cnt _ _ h]
  refine List.pairwise_append.2 ⟨h.filter _, h.filter _, fun x hx y hy => ?_⟩
  have h1 := (List.mem_filter.1 hx).2
  have h2 := (List.mem_filter.1 hy).2
  simp only [decide_eq_true_eq] at h1 h2
  omega

theorem mem_cutOut {bad : List Nat} (h : bad.Pairwise (· < ·)) (a b i : Nat) : i ∈ cutOut bad a b ↔ i ∈ bad ∧ (i < a ∨ b ≤ i) := by
  unfold cutOut
  rw [take_cnt _ _ h, drop_cnt _ _ h, List.mem_append, List.mem_filter, List.mem_filter]
  simp only [decide_eq_true_eq]
  constructor
  · rintro (⟨x, y⟩ | ⟨x, y⟩)
    · exact ⟨x, .inl y⟩
    · exact ⟨x, .inr y⟩
  · rintro ⟨x, y | y⟩
    · exact .inl ⟨x, y⟩
    · exact .inr ⟨x, y⟩

theorem rise_putIn {bad : List Nat} (h : bad.Pairwise (· < ·)) {i : Nat} (hi : i ∉ bad) : (putIn bad i).Pairwise (· < ·) := by
  unfold putIn
  rw [take_cnt _ _ h, drop_cnt _ _ h]
  refine List.pairwise_append.2 ⟨h.filter _, List.pairwise_cons.2 ⟨fun y hy => ?_, h.filter _⟩, fun x hx y hy => ?_⟩
  · obtain ⟨h1, h2⟩ := List.mem_filter.1 hy
    simp only [decide_eq_true_eq] at h2
    rcases Nat.lt_or_ge i y with h3 | h3
    · exact h3
    · exact absurd (show i = y by omega) (fun e => hi (by rw [e]; exact h1))
  · have h1 := (List.mem_filter.1 hx).2
    simp only [decide_eq_true_eq] at h1
    rcases List.mem_cons.1 hy with rfl | hy
    · exact h1
    · have h2 := (List.mem_filter.1 hy).2
      simp only [decide_eq_true_eq] at h2
      omega

theorem mem_putIn {bad : List Nat} (h : bad.Pairwise (· < ·)) (i j : Nat) : j ∈ putIn bad i ↔ j = i ∨ j ∈ bad := by
  unfold putIn
  rw [take_cnt _ _ h, drop_cnt _ _ h, List.mem_append, List.mem_cons, List.mem_filter, List.mem_filter]
  simp only [decide_eq_true_eq]
  constructor
  · rintro (⟨x, _⟩ | x | ⟨x, _⟩)
    · exact .inr x
    · exact .inl x
    · exact .inr x
  · rintro (x | x)
    · exact .inr (.inl x)
    · rcases Nat.lt_or_ge j i with y | y
      · exact .inl ⟨x, y⟩
      · exact .inr (.inr ⟨x, y⟩)

/-- Rising lists are told by what they hold. -/
theorem rise_ext : ∀ {a b : List Nat}, a.Pairwise (· < ·) → b.Pairwise (· < ·) → (∀ i, i ∈ a ↔ i ∈ b) → a = b
  | [], [], _, _, _ => rfl
  | [], y :: b, _, _, h => by have := (h y).2 (List.mem_cons_self ..); simp at this
  | x :: a, [], _, _, h => by have := (h x).1 (List.mem_cons_self ..); simp at this
  | x :: a, y :: b, ha, hb, h => by
    have ha' := List.pairwise_cons.1 ha
    have hb' := List.pairwise_cons.1 hb
    have e : x = y := by
      have h1 := (h x).1 (List.mem_cons_self ..)
      have h2 := (h y).2 (List.mem_cons_self ..)
      rcases List.mem_cons.1 h1 with e | h1
      · exact e
      · rcases List.mem_cons.1 h2 with e | h2
        · exact e.symm
        · have := hb'.1 x h1; have := ha'.1 y h2; omega
    subst e
    refine congrArg _ (rise_ext ha'.2 hb'.2 fun i => ?_)
    constructor
    · intro hi
      rcases List.mem_cons.1 ((h i).1 (List.mem_cons_of_mem _ hi)) with e | h2
      · have := ha'.1 i hi; omega
      · exact h2
    · intro hi
      rcases List.mem_cons.1 ((h i).2 (List.mem_cons_of_mem _ hi)) with e | h2
      · have := hb'.1 i hi; omega
      · exact h2

/-- Bytes, with zeros in the sectors that can't be read, and the numbers of these, rising. -/
structure Con where
  data : List UInt8
  bad : List Nat

theorem Con.ext' {a b : Con} (h : a.data = b.data) (k : a.bad = b.bad) : a = b := by cases a; cases b; cases h; cases k; rfl

/-- In form. -/
structure Con.Ok (c : Con) : Prop where
  rise : c.bad.Pairwise (· < ·)
  there : ∀ i ∈ c.bad, i < sec c.data.length
  zero : ∀ i ∈ c.bad, ∀ p, 512 * i ≤ p → p < 512 * i + 512 → c.data.getD p 0 = 0

/-- d laid over the bytes from s on; its sectors can be read. -/
def Con.put (c : Con) (s : Nat) (d : List UInt8) : Con :=
  if d = [] then c else ⟨over c.data s d, cutOut c.bad (s / 512) (sec (s + d.length))⟩
/-- Sector i, of n bytes, can't be read. -/
def Con.spoil (c : Con) (i n : Nat) : Con := ⟨(c.put (512 * i) (List.replicate n 0)).data, putIn (c.put (512 * i) (List.replicate n 0)).bad i⟩
/-- The first n bytes, whole sectors. -/
def Con.cut (c : Con) (n : Nat) : Con := ⟨c.data.take (min n c.data.length), c.bad.take (cnt c.bad (n / 512))⟩

theorem sec_lt {i n : Nat} : i < sec n ↔ 512 * i < n := by unfold sec; omega
theorem sec_le {i n : Nat} : sec n ≤ i ↔ n ≤ 512 * i := by unfold sec; omega
theorem sec_mul (i : Nat) : sec (512 * i) = i := by unfold sec; omega

theorem Con.Ok.put {c : Con} (h : c.Ok) (s : Nat) (d : List UInt8) : (c.put s d).Ok := by
  unfold Con.put
  split
  · exact h
  · rename_i hd
    have hd' : 0 < d.length := List.length_pos_iff.2 hd
    have hab : s / 512 ≤ sec (s + d.length) := by unfold sec; omega
    refine ⟨rise_cutOut h.rise hab, fun i hi => ?_, fun i hi p h1 h2 => ?_⟩
    · have hm := (mem_cutOut h.rise _ _ i).1 hi
      have := sec_lt.1 (h.there i hm.1)
      show i < sec (over c.data s d).length
      rw [sec_lt, over_length]
      omega
    · have hm := (mem_cutOut h.rise _ _ i).1 hi
      have hz := h.zero i hm.1 p h1 h2
      show (over c.data s d).getD p 0 = 0
      rw [over_get]
      rcases hm.2 with h3 | h3
      · rw [if_neg (by omega)]; exact hz
      · have := sec_le.1 h3
        rw [if_neg (by omega)]; exact hz

theorem Con.Ok.cut {c : Con} (h : c.Ok) (n : Nat) (hn : n % 512 = 0) : (c.cut n).Ok := by
  unfold Con.cut
  refine ⟨?_, fun i hi => ?_, fun i hi p h1 h2 => ?_⟩
  · show (c.bad.take _).Pairwise _
    rw [take_cnt _ _ h.rise]; exact h.rise.filter _
  · change i ∈ c.bad.take _ at hi
    rw [take_cnt _ _ h.rise] at hi
    obtain ⟨h1, h2⟩ := List.mem_filter.1 hi
    simp only [decide_eq_true_eq] at h2
    have := sec_lt.1 (h.there i h1)
    show i < sec (c.data.take _).length
    rw [sec_lt, List.length_take]
    omega
  · change i ∈ c.bad.take _ at hi
    rw [take_cnt _ _ h.rise] at hi
    obtain ⟨h3, h4⟩ := List.mem_filter.1 hi
    show (c.data.take _).getD p 0 = 0
    rw [getD_take]
    split
    · exact h.zero i h3 p h1 h2
    · rfl

theorem Con.spoil_facts {c : Con} (h : c.Ok) (i n : Nat) (hn : 0 < n) (hn2 : n ≤ 512) :
    (c.spoil i n).data = over c.data (512 * i) (List.replicate n 0) ∧ (c.spoil i n).bad.Pairwise (· < ·) ∧ (∀ j, j ∈ (c.spoil i n).bad ↔ j = i ∨ j ∈ c.bad) := by
  have hd : List.replicate n (0 : UInt8) ≠ [] := by intro e; have := congrArg List.length e; simp at this; omega
  have e1 : c.put (512 * i) (List.replicate n 0) = ⟨over c.data (512 * i) (List.replicate n 0), cutOut c.bad (512 * i / 512) (sec (512 * i + (List.replicate n (0 : UInt8)).length))⟩ := if_neg hd
  have e2 : 512 * i / 512 = i := by omega
  have e3 : sec (512 * i + (List.replicate n (0 : UInt8)).length) = i + 1 := by rw [List.length_replicate]; unfold sec; omega
  unfold Con.spoil
  rw [e1, e2, e3]
  have hr := rise_cutOut h.rise (show i ≤ i + 1 by omega)
  have hni : i ∉ cutOut c.bad i (i + 1) := fun hi => by have := ((mem_cutOut h.rise _ _ _).1 hi).2; omega
  refine ⟨rfl, rise_putIn hr hni, fun j => ?_⟩
  show j ∈ putIn (cutOut c.bad i (i + 1)) i ↔ _
  rw [mem_putIn hr, mem_cutOut h.rise]
  constructor
  · rintro (h1 | ⟨h1, _⟩)
    · exact .inl h1
    · exact .inr h1
  · rintro (h1 | h1)
    · exact .inl h1
    · by_cases e : j = i
      · exact .inl e
      · exact .inr ⟨h1, by omega⟩

theorem Con.Ok.spoil {c : Con} (h : c.Ok) (i n : Nat) (hn : 0 < n) (hn2 : n ≤ 512) (hc : c.data.length ≤ 512 * i + n ∨ 512 * i + 512 ≤ 512 * i + n) : (c.spoil i n).Ok := by
  obtain ⟨h1, h2, h3⟩ := Con.spoil_facts h i n hn hn2
  refine ⟨h2, fun j hj => ?_, fun j hj p hp1 hp2 => ?_⟩
  · rw [h1, sec_lt, over_length, List.length_replicate]
    rcases (h3 j).1 hj with rfl | hj
    · omega
    · have := sec_lt.1 (h.there j hj); omega
  · rw [h1, over_get, List.length_replicate]
    split
    · exact getD_zeros _ _
    · rename_i hh
      rcases (h3 j).1 hj with rfl | hj
      · exact getD_far _ _ (by omega)
      · exact h.zero j hj p hp1 hp2

end Go.Proofs.YtdddfapelencoaaDoor

set_option linter.unusedVariables false
namespace Go.Proofs.YtdddfapelencoaaDoor
open Go Go.RowKit

structure Fil where
  seen : Con
  safe : Con
  waits : Nat

/-- In form: what is safe is a beginning of what is seen; below the sectors that wait both are one. -/
structure Fil.Ok (f : Fil) : Prop where
  see : f.seen.Ok
  saf : f.safe.Ok
  wle : f.waits ≤ sec f.seen.data.length
  pre : f.safe.data = f.seen.data.take f.safe.data.length
  low : min (512 * f.waits) f.seen.data.length ≤ f.safe.data.length
  bnd : ∀ i ∈ f.seen.bad, i < f.waits
  same : ∀ i, i < f.waits → (i ∈ f.seen.bad ↔ i ∈ f.safe.bad)

/-- A new file, all of it safe. -/
def Fil.made (c : Con) : Fil := ⟨c, c, sec c.data.length⟩
def Fil.waiting (f : Fil) : Nat := sec f.seen.data.length - f.waits
def Fil.add (f : Fil) (d : List UInt8) : Fil :=
  if d = [] then f else ⟨f.seen.put f.seen.data.length d, f.safe, min f.waits (f.seen.data.length / 512)⟩
def Fil.sync (f : Fil) : Fil :=
  ⟨f.seen, f.safe.put (min (512 * f.waits) f.seen.data.length) (f.seen.data.drop (min (512 * f.waits) f.seen.data.length)), sec f.seen.data.length⟩
def Fil.cut (f : Fil) (n : Nat) : Fil := ⟨f.seen.cut n, f.safe.cut n, min f.waits (n / 512)⟩

theorem Fil.made_ok {c : Con} (h : c.Ok) : (Fil.made c).Ok where
  see := h
  saf := h
  wle := Nat.le_refl _
  pre := by show c.data = c.data.take c.data.length; rw [List.take_length]
  low := Nat.min_le_right _ _
  bnd := h.there
  same := fun i _ => Iff.rfl

theorem Fil.Ok.len {f : Fil} (h : f.Ok) : f.safe.data.length ≤ f.seen.data.length := by
  have := congrArg List.length h.pre
  rw [List.length_take] at this
  omega

theorem Fil.Ok.byte {f : Fil} (h : f.Ok) (p : Nat) (hp : p < f.safe.data.length) : f.safe.data.getD p 0 = f.seen.data.getD p 0 := by
  rw [h.pre, getD_take, if_pos hp]

theorem Fil.Ok.add {f : Fil} (h : f.Ok) (d : List UInt8) : (f.add d).Ok := by
  unfold Fil.add
  split
  · exact h
  · rename_i hd
    have hd' : 0 < d.length := List.length_pos_iff.2 hd
    have e : f.seen.put f.seen.data.length d = ⟨over f.seen.data f.seen.data.length d, cutOut f.seen.bad (f.seen.data.length / 512) (sec (f.seen.data.length + d.length))⟩ := if_neg hd
    have ok := h.see.put f.seen.data.length d
    have len := h.len
    have low := h.low
    rw [e] at ok ⊢
    refine ⟨ok, h.saf, ?_, ?_, ?_, fun i hi => ?_, fun i hi => ?_⟩
    · show min f.waits (f.seen.data.length / 512) ≤ sec (over _ _ _).length
      rw [over_length]; unfold sec; omega
    · show f.safe.data = (over _ _ _).take _
      rw [over_end, List.take_append_of_le_length h.len]
      exact h.pre
    · show min (512 * min f.waits (f.seen.data.length / 512)) (over _ _ _).length ≤ f.safe.data.length
      omega
    · have hm := (mem_cutOut h.see.rise _ _ i).1 hi
      have h1 := h.bnd i hm.1
      have h2 := sec_lt.1 (h.see.there i hm.1)
      show i < min f.waits (f.seen.data.length / 512)
      rcases hm.2 with h3 | h3
      · omega
      · have := sec_le.1 h3; omega
    · have hi' : i < min f.waits (f.seen.data.length / 512) := hi
      show i ∈ cutOut _ _ _ ↔ i ∈ f.safe.bad
      rw [mem_cutOut h.see.rise, ← h.same i (by omega)]
      constructor
      · exact fun x => x.1
      · exact fun x => ⟨x, .inl (by omega)⟩

theorem Fil.Ok.sync_eq {f : Fil} (h : f.Ok) : f.sync = ⟨f.seen, f.seen, sec f.seen.data.length⟩ := by
  have len := h.len
  have low := h.low
  have wle := h.wle
  unfold Fil.sync
  have e : f.safe.put (min (512 * f.waits) f.seen.data.length) (f.seen.data.drop (min (512 * f.waits) f.seen.data.length)) = f.seen := by
    generalize hs : min (512 * f.waits) f.seen.data.length = s at *
    unfold Con.put
    split
    · rename_i hd
      have hl := congrArg List.length hd
      rw [List.length_drop, List.length_nil] at hl
      have e1 : f.safe.data.length = f.seen.data.length := by omega
      refine Con.ext' ?_ ?_
      · rw [h.pre, e1, List.take_length]
      · refine rise_ext h.saf.rise h.see.rise fun i => ?_
        constructor
        · intro hi
          have h1 := sec_lt.1 (h.saf.there i hi)
          exact (h.same i (by omega)).2 hi
        · intro hi
          exact (h.same i (h.bnd i hi)).1 hi
    · rename_i hd
      have hl : 0 < (f.seen.data.drop s).length := List.length_pos_iff.2 hd
      rw [List.length_drop] at hl
      have es : s = 512 * f.waits := by omega
      have el : s + (f.seen.data.drop s).length = f.seen.data.length := by rw [List.length_drop]; omega
      rw [el]
      refine Con.ext' ?_ ?_
      · refine bytes_ext (by rw [over_length, el]; omega) fun p hp => ?_
        rw [over_get, el, getD_drop]
        by_cases h1 : s ≤ p ∧ p < f.seen.data.length
        · rw [if_pos h1, show s + (p - s) = p by omega]
        · rw [if_neg h1]
          rw [over_length, el] at hp
          exact h.byte p (by omega)
      · refine rise_ext (rise_cutOut h.saf.rise (by unfold sec; omega)) h.see.rise fun i => ?_
        rw [mem_cutOut h.saf.rise]
        constructor
        · rintro ⟨hi, h1 | h1⟩
          · exact (h.same i (by omega)).2 hi
          · have h2 := sec_lt.1 (h.saf.there i hi)
            have h3 := sec_le.1 h1
            omega
        · intro hi
          have h1 := h.bnd i hi
          exact ⟨(h.same i h1).1 hi, .inl (by omega)⟩
  rw [e]

theorem Fil.Ok.sync {f : Fil} (h : f.Ok) : f.sync.Ok := by
  rw [h.sync_eq]
  exact Fil.made_ok h.see

theorem mem_take_cnt {bad : List Nat} (h : bad.Pairwise (· < ·)) (x i : Nat) : i ∈ bad.take (cnt bad x) ↔ i ∈ bad ∧ i < x := by
  rw [take_cnt _ _ h, List.mem_filter]
  simp only [decide_eq_true_eq]

theorem Fil.Ok.cut {f : Fil} (h : f.Ok) (n : Nat) (hn : n % 512 = 0) (hl : n ≤ f.seen.data.length) : (f.cut n).Ok := by
  have len := h.len
  have low := h.low
  have wle := h.wle
  have e1 : (f.seen.cut n).data.length = n := by show (f.seen.data.take _).length = n; rw [List.length_take]; omega
  have e2 : (f.safe.cut n).data.length = min n f.safe.data.length := by show (f.safe.data.take _).length = _; rw [List.length_take]; omega
  refine ⟨h.see.cut n hn, h.saf.cut n hn, ?_, ?_, ?_, fun i hi => ?_, fun i hi => ?_⟩
  · show min f.waits (n / 512) ≤ sec (f.seen.cut n).data.length
    rw [e1]; unfold sec at *; omega
  · show (f.safe.cut n).data = (f.seen.cut n).data.take (f.safe.cut n).data.length
    rw [e2]
    show f.safe.data.take _ = (f.seen.data.take _).take _
    rw [List.take_take]
    have e := h.pre
    generalize f.safe.data.length = k at *
    rw [e, List.take_take]
    congr 1
    omega
  · show min (512 * min f.waits (n / 512)) (f.seen.cut n).data.length ≤ (f.safe.cut n).data.length
    rw [e1, e2]; omega
  · have hm := (mem_take_cnt h.see.rise _ _).1 hi
    have := h.bnd i hm.1
    show i < min f.waits (n / 512)
    omega
  · have hi' : i < min f.waits (n / 512) := hi
    show i ∈ f.seen.bad.take _ ↔ i ∈ f.safe.bad.take _
    rw [mem_take_cnt h.see.rise, mem_take_cnt h.saf.rise, h.same i (by omega)]

/-- What one fate makes of sector i. -/
def Fil.fated (f : Fil) (c : Con) (i : Nat) (x : Int) : Con :=
  if x = 0 then c else if x = 1 then c.put (512 * i) (sect f.seen.data i) else c.spoil i (sect f.seen.data i).length
/-- The fates from the k-th waiting sector on. -/
def Fil.leftFrom (f : Fil) : Con → Nat → List Int → Con
  | c, _, [] => c
  | c, k, x :: rest => f.leftFrom (f.fated c (f.waits + k) x) (k + 1) rest
/-- What a loss of power leaves if the first waiting sectors have these fates, and the others are lost. -/
def Fil.left (f : Fil) (fates : List Int) : Con := f.leftFrom f.safe 0 fates

theorem Fil.leftFrom_snoc (f : Fil) : ∀ (c : Con) (k : Nat) (l : List Int) (x : Int), f.leftFrom c k (l ++ [x]) = f.fated (f.leftFrom c k l) (f.waits + (k + l.length)) x
  | c, k, [], x => rfl
  | c, k, y :: l, x => by
    show f.leftFrom (f.fated c (f.waits + k) y) (k + 1) (l ++ [x]) = f.fated (f.leftFrom (f.fated c (f.waits + k) y) (k + 1) l) (f.waits + (k + (l.length + 1))) x
    rw [Fil.leftFrom_snoc f _ (k + 1) l x, show k + 1 + l.length = k + (l.length + 1) by omega]
theorem Fil.left_snoc (f : Fil) (l : List Int) (x : Int) : f.left (l ++ [x]) = f.fated (f.left l) (f.waits + l.length) x := by
  have := f.leftFrom_snoc f.safe 0 l x
  rw [Nat.zero_add] at this
  exact this

/-- The fate of sector i under a list of fates. -/
def Fil.fate (f : Fil) (fates : List Int) (i : Nat) : Int := if i < f.waits then 0 else fates.getD (i - f.waits) 0
/-- The end, as seen, of sector i. -/
def Fil.fin (f : Fil) (i : Nat) : Nat := min (512 * i + 512) f.seen.data.length

/-- What is left, place by place: how long it is, what stands where, and which sectors can't be read. -/
structure Fil.Left (f : Fil) (fates : List Int) (c : Con) : Prop where
  ok : c.Ok
  long : ∀ n, c.data.length ≤ n ↔ f.safe.data.length ≤ n ∧ ∀ i, f.fate fates i ≠ 0 → f.fin i ≤ n
  byte : ∀ p, c.data.getD p 0 = if f.fate fates (p / 512) = 0 then f.safe.data.getD p 0 else if f.fate fates (p / 512) = 1 then f.seen.data.getD p 0 else 0
  bads : ∀ i, i ∈ c.bad ↔ (f.fate fates i = 0 ∧ i ∈ f.safe.bad) ∨ (f.fate fates i ≠ 0 ∧ f.fate fates i ≠ 1)

theorem Fil.fate_nil (f : Fil) (i : Nat) : f.fate [] i = 0 := by unfold Fil.fate; split <;> rfl

theorem Fil.Ok.left_nil {f : Fil} (h : f.Ok) : f.Left [] f.safe where
  ok := h.saf
  long := fun n => ⟨fun x => ⟨x, fun i hi => absurd (f.fate_nil i) hi⟩, fun x => x.1⟩
  byte := fun p => by rw [if_pos (f.fate_nil _)]
  bads := fun i => by rw [f.fate_nil]; simp

theorem Fil.fate_snoc (f : Fil) (l : List Int) (x : Int) (i : Nat) : f.fate (l ++ [x]) i = if i = f.waits + l.length then x else f.fate l i := by
  unfold Fil.fate
  by_cases h1 : i < f.waits
  · rw [if_pos h1, if_neg (by omega), if_pos h1]
  · rw [if_neg h1, if_neg h1]
    simp only [List.getD_eq_getElem?_getD]
    by_cases h2 : i = f.waits + l.length
    · rw [if_pos h2, show i - f.waits = l.length by omega]; simp
    · rw [if_neg h2]
      rcases Nat.lt_or_ge (i - f.waits) l.length with h3 | h3
      · rw [List.getElem?_append_left h3]
      · have e1 : (l ++ [x])[i - f.waits]? = none := List.getElem?_eq_none (by simp; omega)
        have e2 : l[i - f.waits]? = none := List.getElem?_eq_none (by omega)
        rw [e1, e2]

theorem Fil.Ok.left_step {f : Fil} (h : f.Ok) {l : List Int} {c : Con} (hc : f.Left l c) (x : Int) (hk : l.length < f.waiting) : f.Left (l ++ [x]) (f.fated c (f.waits + l.length) x) := by
  have hi : 512 * (f.waits + l.length) < f.seen.data.length := sec_lt.1 (by unfold Fil.waiting at hk; omega)
  have f0 : f.fate l (f.waits + l.length) = 0 := by
    unfold Fil.fate
    rw [if_neg (by omega), show f.waits + l.length - f.waits = l.length by omega]
    simp
  generalize hI : f.waits + l.length = i at *
  have fs := f.fate_snoc l x
  rw [hI] at fs
  have hn : 0 < (sect f.seen.data i).length ∧ (sect f.seen.data i).length ≤ 512 ∧ 512 * i + (sect f.seen.data i).length = f.fin i := by rw [sect_length]; unfold Fil.fin; omega
  unfold Fil.fated
  by_cases x0 : x = 0
  · subst x0
    rw [if_pos rfl]
    have e : ∀ j, f.fate (l ++ [0]) j = f.fate l j := fun j => by
      rw [fs]; split
      · rename_i e; rw [e, f0]
      · rfl
    exact ⟨hc.ok, fun n => by rw [hc.long n]; simp only [e], fun p => by rw [hc.byte p, e], fun j => by rw [hc.bads j, e]⟩
  · rw [if_neg x0]
    -- the bytes of another sector are not touched
    have div : ∀ p, 512 * i ≤ p ∧ p < 512 * i + (sect f.seen.data i).length → p / 512 = i := fun p hp => by omega
    have lenL : ∀ n, max c.data.length (f.fin i) ≤ n ↔ f.safe.data.length ≤ n ∧ ∀ j, f.fate (l ++ [x]) j ≠ 0 → f.fin j ≤ n := fun n => by
      constructor
      · intro hm
        obtain ⟨a, b⟩ := (hc.long n).1 (by omega)
        refine ⟨a, fun j hj => ?_⟩
        rw [fs] at hj
        split at hj
        · rename_i e; rw [e]; omega
        · exact b j hj
      · rintro ⟨a, b⟩
        have h1 := b i (by rw [fs, if_pos rfl]; exact x0)
        have h2 := (hc.long n).2 ⟨a, fun j hj => b j (by
          rw [fs]; split
          · exact x0
          · exact hj)⟩
        omega
    by_cases x1 : x = 1
    · subst x1
      rw [if_pos rfl]
      have hne : sect f.seen.data i ≠ [] := by intro e; rw [e] at hn; simp at hn
      have ok := hc.ok.put (512 * i) (sect f.seen.data i)
      have e : c.put (512 * i) (sect f.seen.data i) = ⟨over c.data (512 * i) (sect f.seen.data i), cutOut c.bad (512 * i / 512) (sec (512 * i + (sect f.seen.data i).length))⟩ := if_neg hne
      rw [e] at ok ⊢
      have e2 : 512 * i / 512 = i := by omega
      have e3 : sec (512 * i + (sect f.seen.data i).length) = i + 1 := by unfold sec; omega
      refine ⟨ok, fun n => ?_, fun p => ?_, fun j => ?_⟩
      · show (over _ _ _).length ≤ n ↔ _
        rw [over_length, hn.2.2]; exact lenL n
      · show (over _ _ _).getD p 0 = _
        rw [over_get]
        by_cases hp : 512 * i ≤ p ∧ p < 512 * i + (sect f.seen.data i).length
        · rw [if_pos hp, div p hp, fs, if_pos rfl, if_neg (by decide), if_pos rfl, sect_get, if_pos (by omega), show 512 * i + (p - 512 * i) = p by omega]
        · rw [if_neg hp, fs, hc.byte p]
          by_cases hd : p / 512 = i
          · have hf : f.seen.data.length ≤ p := by unfold Fil.fin at hn; omega
            have := h.len
            rw [if_pos hd, hd, f0, if_pos rfl, if_neg (by decide), if_pos rfl, getD_far _ _ (by omega), getD_far _ _ hf]
          · rw [if_neg hd]
      · show j ∈ cutOut _ _ _ ↔ _
        rw [e2, e3, mem_cutOut hc.ok.rise, hc.bads j, fs]
        by_cases e : j = i
        · subst e
          rw [if_pos rfl]
          constructor
          · rintro ⟨_, q⟩; omega
          · rintro (⟨q, _⟩ | ⟨_, q⟩)
            · exact absurd q (by decide)
            · exact absurd rfl q
        · rw [if_neg e]
          constructor
          · exact fun q => q.1
          · exact fun q => ⟨q, by omega⟩
    · rw [if_neg x1]
      have hfin : f.fin i = 512 * i + 512 ∨ f.fin i = f.seen.data.length := by unfold Fil.fin; omega
      have hcl : c.data.length ≤ f.seen.data.length := (hc.long _).2 ⟨h.len, fun j _ => by unfold Fil.fin; omega⟩
      obtain ⟨g1, g2, g3⟩ := Con.spoil_facts hc.ok i _ hn.1 hn.2.1
      refine ⟨hc.ok.spoil i _ hn.1 hn.2.1 (by omega), fun n => ?_, fun p => ?_, fun j => ?_⟩
      · rw [g1, over_length, List.length_replicate, hn.2.2]; exact lenL n
      · rw [g1, over_get, List.length_replicate]
        by_cases hp : 512 * i ≤ p ∧ p < 512 * i + (sect f.seen.data i).length
        · rw [if_pos hp, div p hp, fs, if_pos rfl, if_neg x0, if_neg x1, getD_zeros]
        · rw [if_neg hp, fs, hc.byte p]
          by_cases hd : p / 512 = i
          · have hf : f.seen.data.length ≤ p := by unfold Fil.fin at hn; omega
            have := h.len
            rw [if_pos hd, hd, f0, if_pos rfl, if_neg x0, if_neg x1, getD_far _ _ (by omega)]
          · rw [if_neg hd]
      · rw [g3, hc.bads j, fs]
        by_cases e : j = i
        · subst e
          rw [if_pos rfl]
          exact ⟨fun _ => .inr ⟨x0, x1⟩, fun _ => .inl rfl⟩
        · rw [if_neg e]
          exact ⟨fun q => q.resolve_left e, .inr⟩

/-- WHAT A LOSS OF POWER LEAVES OF A FILE. -/
theorem Fil.Ok.left_is {f : Fil} (h : f.Ok) (l : List Int) (hl : l.length ≤ f.waiting) : f.Left l (f.left l) := by
  suffices H : ∀ n, n ≤ l.length → f.Left (l.take n) (f.left (l.take n)) by
    have := H l.length (Nat.le_refl _)
    rwa [List.take_length] at this
  intro n
  induction n with
  | zero => intro _; rw [List.take_zero]; exact h.left_nil
  | succ n ih =>
    intro hn
    have e : l.take (n + 1) = l.take n ++ [l[n]] := by rw [List.take_succ_eq_append_getElem (by omega)]
    have hlen : (l.take n).length = n := by rw [List.length_take]; omega
    rw [e, f.left_snoc]
    exact h.left_step (ih (by omega)) _ (by omega)

end Go.Proofs.YtdddfapelencoaaDoor

set_option linter.unusedVariables false
namespace Go.Proofs.YtdddfapelencoaaDoor
open Go Go.RowKit

/-- Behind w' all blocks of w but those of S are as they were. -/
structure Touch (w w' : World) (S : List Nat) : Prop where
  os : w'.os = w.os
  tape : w'.tape = w.tape
  output : w'.output = w.output
  size : w.heap.size ≤ w'.heap.size
  block : ∀ k, k < w.heap.size → k ∉ S → w'.heap[k]? = w.heap[k]?

theorem Touch.refl (w : World) (S : List Nat) : Touch w w S := ⟨rfl, rfl, rfl, Nat.le_refl _, fun _ _ _ => rfl⟩
theorem Touch.of_up {w w' : World} (h : Up w w') (S : List Nat) : Touch w w' S := ⟨h.os, h.tape, h.output, h.size, fun k hk _ => h.block k hk⟩
theorem Touch.of_grown {w w' : World} {r : Option Nat} {S : List Nat} (h : w.grownBy w' r) (hr : ∀ k, r = some k → k ∈ S) : Touch w w' S :=
  ⟨h.os, h.tape, h.output, h.size, fun k hk hn => h.block k hk (fun e => hn (hr k e.symm))⟩
theorem Touch.mono {w w' : World} {S S' : List Nat} (h : Touch w w' S) (hs : ∀ k ∈ S, k ∈ S' ∨ w.heap.size ≤ k) : Touch w w' S' :=
  ⟨h.os, h.tape, h.output, h.size, fun k hk hn => h.block k hk (fun hm => (hs k hm).elim hn (fun e => by omega))⟩
theorem Touch.trans {a b c : World} {S S' : List Nat} (h : Touch a b S) (k : Touch b c S') (hs : ∀ k ∈ S', k ∈ S ∨ a.heap.size ≤ k) : Touch a c S :=
  ⟨k.os.trans h.os, k.tape.trans h.tape, k.output.trans h.output, Nat.le_trans h.size k.size,
    fun i hi hn => (k.block i (Nat.lt_of_lt_of_le hi h.size) (fun hm => (hs i hm).elim hn (fun e => by omega))).trans (h.block i hi hn)⟩
theorem Touch.up {w w' : World} {S : List Nat} (h : Touch w w' S) (hs : ∀ k ∈ S, w.heap.size ≤ k) : Up w w' :=
  ⟨h.os, h.tape, h.output, h.size, fun k hk => h.block k hk (fun hm => by have := hs k hm; omega)⟩
theorem Touch.below {w w' : World} {S : List Nat} {B : Nat} (h : Touch w w' S) (hs : ∀ k ∈ S, B ≤ k) (hB : B ≤ w.heap.size) : Below B w w' :=
  ⟨h.os, h.tape, h.output, h.size, fun k hk => h.block k (by omega) (fun hm => by have := hs k hm; omega)⟩
theorem Touch.setCell {w w' : World} {S : List Nat} (h : Touch w w' S) {k : Nat} (hk : k ∈ S ∨ w.heap.size ≤ k) (i : Nat) (v : Value) : Touch w (w'.setCell ⟨k, i, none⟩ v) S :=
  ⟨h.os, h.tape, h.output, by rw [show (w'.setCell ⟨k, i, none⟩ v).heap.size = w'.heap.size by simp [World.setCell]]; exact h.size, fun g hg hn => by
    rw [heap_setCell_other _ ⟨k, i, none⟩ _ _ (by rintro rfl; rcases hk with x | x; exact hn x; omega)]
    exact h.block g hg hn⟩
theorem Touch.setRow {w w' : World} {S : List Nat} (h : Touch w w' S) {k : Nat} (hk : k ∈ S ∨ w.heap.size ≤ k) (cs : Array Value) : Touch w (w'.setRow k cs) S :=
  ⟨h.os, h.tape, h.output, by rw [show (w'.setRow k cs).heap.size = w'.heap.size by simp]; exact h.size, fun g hg hn => by
    rw [setRow_other _ _ _ _ (by rintro rfl; rcases hk with x | x; exact hn x; omega)]
    exact h.block g hg hn⟩
theorem Touch.alloc {w w' : World} {S : List Nat} (h : Touch w w' S) (o : Obj) : Touch w (w'.alloc o) S :=
  h.trans (Touch.of_up (Up.alloc _ _) S) (fun k hk => .inl hk)
theorem Touch.drew {w w' : World} {S : List Nat} (h : Touch w w' S) : Touch w w'.drew S := ⟨h.os, h.tape, h.output, h.size, h.block⟩

/-- What was there and wasn't touched is there. -/
theorem Touch.box {w w' : World} {S : List Nat} {k : Nat} {cs : Array Value} (h : Box w k cs) (t : Touch w w' S) (hk : k ∉ S) : Box w' k cs := by
  have hl := h.lt
  obtain ⟨ty, h⟩ := h
  exact ⟨ty, by rw [t.block k hl hk]; exact h⟩
theorem Touch.row {w w' : World} {S : List Nat} {base : Nat} {e : TypeId} {size : Nat} {v : Value} {n : Nat} {xs : List Value} (h : w.ownsRow base e size v n xs) (t : Touch w w' S) (hk : ∀ k, v.ownBlock = some k → k ∉ S) : w'.ownsRow base e size v n xs := by
  refine ⟨h.1, ?_⟩
  rcases h.2 with hn | ⟨g, cap, cur, rfl, hb, hgg, rest⟩
  · exact .inl hn
  · refine .inr ⟨g, cap, cur, rfl, hb, ?_, rest⟩
    rw [t.block g (Array.getElem?_eq_some_iff.1 hgg).1 (hk g rfl)]
    exact hgg
theorem Touch.at {w w' : World} {S : List Nat} {b o : Nat} {bs : List UInt8} (h : At w b o bs) (t : Touch w w' S) (hk : bs ≠ [] → b ∉ S) : At w' b o bs := by
  intro i hi
  have hne : bs ≠ [] := by intro e; simp [e] at hi
  have hb := h.lt hne
  rw [World.cell?_of_block (t.block b hb (hk hne))]
  exact h i hi
/-- A slice whose bytes lie in no touched block. -/
theorem Touch.sl {w w' : World} {S : List Nat} {base : Nat} {v : Value} {bs : List UInt8} (h : Sl base w v bs) (t : Touch w w' S) (hk : bs ≠ [] → ∀ k, v.ownBlock = some k → k ∉ S) : Sl base w' v bs := by
  obtain ⟨ao, cap, rfl, hc, hn, hx⟩ := h
  refine ⟨ao, cap, rfl, hc, hn, fun hb => ?_⟩
  obtain ⟨b, o, rfl, hbb, ha⟩ := hx hb
  exact ⟨b, o, rfl, hbb, t.at ha (fun hne => hk hne b rfl)⟩

theorem ownsRow_base {w : World} {base base' : Nat} {e : TypeId} {size : Nat} {v : Value} {n : Nat} {xs : List Value} (h : w.ownsRow base e size v n xs) (hb : ∀ k, v.ownBlock = some k → base' ≤ k) : w.ownsRow base' e size v n xs := by
  refine ⟨h.1, ?_⟩
  rcases h.2 with hn | ⟨g, cap, cur, rfl, _, rest⟩
  · exact .inl hn
  · exact .inr ⟨g, cap, cur, rfl, hb g rfl, rest⟩

/-- Numbers of int, not negative, as values. -/
abbrev Nv (zs : List Nat) : List Value := zs.map fun (n : Nat) => Value.int .i64 (n : Int)
theorem Nv_one (zs : List Nat) : ∀ u ∈ Nv zs, u.oneCell' = true := by
  intro u hu
  obtain ⟨c, _, rfl⟩ := List.mem_map.1 hu
  rfl
abbrev OwnB (w : World) (base : Nat) (v : Value) (bs : List UInt8) : Prop := Own w 5 base v bs
/-- An own row of numbers. -/
def OwnN (w : World) (base : Nat) (v : Value) (zs : List Nat) : Prop := w.ownsRow base 3 1 v zs.length (Nv zs)

/-- The block that a slice of one's own lies in, as a list. -/
def ob (v : Value) : List Nat := v.ownBlock.toList
theorem mem_ob {v : Value} {k : Nat} : k ∈ ob v ↔ v.ownBlock = some k := by unfold ob; cases v.ownBlock <;> simp [eq_comm]
theorem ob_nodup (v : Value) : (ob v).Nodup := by unfold ob; cases v.ownBlock <;> simp

/-- A part of a list of unlike blocks is put in place of another one whose blocks are of it or new. -/
theorem nodup_swap {A L M B : List Nat} {n : Nat} (h : (A ++ L ++ B).Nodup) (hM : M.Nodup) (hs : ∀ k ∈ M, k ∈ L ∨ n ≤ k) (hb : ∀ k ∈ A ++ L ++ B, k < n) : (A ++ M ++ B).Nodup := by
  rw [List.nodup_append, List.nodup_append] at h ⊢
  obtain ⟨⟨ha, hl, hal⟩, hbb, hab⟩ := h
  refine ⟨⟨ha, hM, fun x hx y hy => ?_⟩, hbb, fun x hx y hy => ?_⟩
  · rcases hs y hy with h1 | h1
    · exact hal x hx y h1
    · have := hb x (by simp [hx]); omega
  · rcases List.mem_append.1 hx with h1 | h1
    · exact hab x (by simp [h1]) y hy
    · rcases hs x h1 with h2 | h2
      · exact hab x (by simp [h2]) y hy
      · have := hb y (by simp [hy]); omega

end Go.Proofs.YtdddfapelencoaaDoor

/- disk: a file in lists and numbers alone: what is seen, what is safe, the first sector that waits; what a loss of power leaves. -/
import Derived.Test.YtffldmeocmemeaaDoorDkCon
set_option linter.unusedVariables false
namespace Go.Proofs.YtffldmeocmemeaaDoor
open Go Go.RowKit

structure Fil where
  seen : Con
  safe : Con
  waits : Nat

/-- In form: what is safe is a beginning of what is seen; below the sectors that wait both are one. -/
structure Fil.Ok (f : Fil) : Prop where
  see : f.seen.Ok
  saf : f.safe.Ok
  wle : f.waits ≤ sec f.seen.data.length
  pre : f.safe.data = f.seen.data.take f.safe.data.length
  low : min (512 * f.waits) f.seen.data.length ≤ f.safe.data.length
  bnd : ∀ i ∈ f.seen.bad, i < f.waits
  same : ∀ i, i < f.waits → (i ∈ f.seen.bad ↔ i ∈ f.safe.bad)

/-- A new file, all of it safe. -/
def Fil.made (c : Con) : Fil := ⟨c, c, sec c.data.length⟩
def Fil.waiting (f : Fil) : Nat := sec f.seen.data.length - f.waits
def Fil.add (f : Fil) (d : List UInt8) : Fil :=
  if d = [] then f else ⟨f.seen.put f.seen.data.length d, f.safe, min f.waits (f.seen.data.length / 512)⟩
def Fil.sync (f : Fil) : Fil :=
  ⟨f.seen, f.safe.put (min (512 * f.waits) f.seen.data.length) (f.seen.data.drop (min (512 * f.waits) f.seen.data.length)), sec f.seen.data.length⟩
def Fil.cut (f : Fil) (n : Nat) : Fil := ⟨f.seen.cut n, f.safe.cut n, min f.waits (n / 512)⟩

theorem Fil.made_ok {c : Con} (h : c.Ok) : (Fil.made c).Ok where
  see := h
  saf := h
  wle := Nat.le_refl _
  pre := by show c.data = c.data.take c.data.length; rw [List.take_length]
  low := Nat.min_le_right _ _
  bnd := h.there
  same := fun i _ => Iff.rfl

theorem Fil.Ok.len {f : Fil} (h : f.Ok) : f.safe.data.length ≤ f.seen.data.length := by
  have := congrArg List.length h.pre
  rw [List.length_take] at this
  omega

theorem Fil.Ok.byte {f : Fil} (h : f.Ok) (p : Nat) (hp : p < f.safe.data.length) : f.safe.data.getD p 0 = f.seen.data.getD p 0 := by
  rw [h.pre, getD_take, if_pos hp]

theorem Fil.Ok.add {f : Fil} (h : f.Ok) (d : List UInt8) : (f.add d).Ok := by
  unfold Fil.add
  split
  · exact h
  · rename_i hd
    have hd' : 0 < d.length := List.length_pos_iff.2 hd
    have e : f.seen.put f.seen.data.length d = ⟨over f.seen.data f.seen.data.length d, cutOut f.seen.bad (f.seen.data.length / 512) (sec (f.seen.data.length + d.length))⟩ := if_neg hd
    have ok := h.see.put f.seen.data.length d
    have len := h.len
    have low := h.low
    rw [e] at ok ⊢
    refine ⟨ok, h.saf, ?_, ?_, ?_, fun i hi => ?_, fun i hi => ?_⟩
    · show min f.waits (f.seen.data.length / 512) ≤ sec (over _ _ _).length
      rw [over_length]; unfold sec; omega
    · show f.safe.data = (over _ _ _).take _
      rw [over_end, List.take_append_of_le_length h.len]
      exact h.pre
    · show min (512 * min f.waits (f.seen.data.length / 512)) (over _ _ _).length ≤ f.safe.data.length
      omega
    · have hm := (mem_cutOut h.see.rise _ _ i).1 hi
      have h1 := h.bnd i hm.1
      have h2 := sec_lt.1 (h.see.there i hm.1)
      show i < min f.waits (f.seen.data.length / 512)
      rcases hm.2 with h3 | h3
      · omega
      · have := sec_le.1 h3; omega
    · have hi' : i < min f.waits (f.seen.data.length / 512) := hi
      show i ∈ cutOut _ _ _ ↔ i ∈ f.safe.bad
      rw [mem_cutOut h.see.rise, ← h.same i (by omega)]
      constructor
      · exact fun x => x.1
      · exact fun x => ⟨x, .inl (by omega)⟩

theorem Fil.Ok.sync_eq {f : Fil} (h : f.Ok) : f.sync = ⟨f.seen, f.seen, sec f.seen.data.length⟩ := by
  have len := h.len
  have low := h.low
  have wle := h.wle
  unfold Fil.sync
  have e : f.safe.put (min (512 * f.waits) f.seen.data.length) (f.seen.data.drop (min (512 * f.waits) f.seen.data.length)) = f.seen := by
    generalize hs : min (512 * f.waits) f.seen.data.length = s at *
    unfold Con.put
    split
    · rename_i hd
      have hl := congrArg List.length hd
      rw [List.length_drop, List.length_nil] at hl
      have e1 : f.safe.data.length = f.seen.data.length := by omega
      refine Con.ext' ?_ ?_
      · rw [h.pre, e1, List.take_length]
      · refine rise_ext h.saf.rise h.see.rise fun i => ?_
        constructor
        · intro hi
          have h1 := sec_lt.1 (h.saf.there i hi)
          exact (h.same i (by omega)).2 hi
        · intro hi
          exact (h.same i (h.bnd i hi)).1 hi
    · rename_i hd
      have hl : 0 < (f.seen.data.drop s).length := List.length_pos_iff.2 hd
      rw [List.length_drop] at hl
      have es : s = 512 * f.waits := by omega
      have el : s + (f.seen.data.drop s).length = f.seen.data.length := by rw [List.length_drop]; omega
      rw [el]
      refine Con.ext' ?_ ?_
      · refine bytes_ext (by rw [over_length, el]; omega) fun p hp => ?_
        rw [over_get, el, getD_drop]
        by_cases h1 : s ≤ p ∧ p < f.seen.data.length
        · rw [if_pos h1, show s + (p - s) = p by omega]
        · rw [if_neg h1]
          rw [over_length, el] at hp
          exact h.byte p (by omega)
      · refine rise_ext (rise_cutOut h.saf.rise (by unfold sec; omega)) h.see.rise fun i => ?_
        rw [mem_cutOut h.saf.rise]
        constructor
        · rintro ⟨hi, h1 | h1⟩
          · exact (h.same i (by omega)).2 hi
          · have h2 := sec_lt.1 (h.saf.there i hi)
            have h3 := sec_le.1 h1
            omega
        · intro hi
          have h1 := h.bnd i hi
          exact ⟨(h.same i h1).1 hi, .inl (by omega)⟩
  rw [e]

theorem Fil.Ok.sync {f : Fil} (h : f.Ok) : f.sync.Ok := by
  rw [h.sync_eq]
  exact Fil.made_ok h.see

theorem mem_take_cnt {bad : List Nat} (h : bad.Pairwise (· < ·)) (x i : Nat) : i ∈ bad.take (cnt bad x) ↔ i ∈ bad ∧ i < x := by
  rw [take_cnt _ _ h, List.mem_filter]
  simp only [decide_eq_true_eq]

theorem Fil.Ok.cut {f : Fil} (h : f.Ok) (n : Nat) (hn : n % 512 = 0) (hl : n ≤ f.seen.data.length) : (f.cut n).Ok := by
  have len := h.len
  have low := h.low
  have wle := h.wle
  have e1 : (f.seen.cut n).data.length = n := by show (f.seen.data.take _).length = n; rw [List.length_take]; omega
  have e2 : (f.safe.cut n).data.length = min n f.safe.data.length := by show (f.safe.data.take _).length = _; rw [List.length_take]; omega
  refine ⟨h.see.cut n hn, h.saf.cut n hn, ?_, ?_, ?_, fun i hi => ?_, fun i hi => ?_⟩
  · show min f.waits (n / 512) ≤ sec (f.seen.cut n).data.length
    rw [e1]; unfold sec at *; omega
  · show (f.safe.cut n).data = (f.seen.cut n).data.take (f.safe.cut n).data.length
    rw [e2]
    show f.safe.data.take _ = (f.seen.data.take _).take _
    rw [List.take_take]
    have e := h.pre
    generalize f.safe.data.length = k at *
    rw [e, List.take_take]
    congr 1
    omega
  · show min (512 * min f.waits (n / 512)) (f.seen.cut n).data.length ≤ (f.safe.cut n).data.length
    rw [e1, e2]; omega
  · have hm := (mem_take_cnt h.see.rise _ _).1 hi
    have := h.bnd i hm.1
    show i < min f.waits (n / 512)
    omega
  · have hi' : i < min f.waits (n / 512) := hi
    show i ∈ f.seen.bad.take _ ↔ i ∈ f.safe.bad.take _
    rw [mem_take_cnt h.see.rise, mem_take_cnt h.saf.rise, h.same i (by omega)]

/-- What one fate makes of sector i. -/
def Fil.fated (f : Fil) (c : Con) (i : Nat) (x : Int) : Con :=
  if x = 0 then c else if x = 1 then c.put (512 * i) (sect f.seen.data i) else c.spoil i (sect f.seen.data i).length
/-- The fates from the k-th waiting sector on. -/
def Fil.leftFrom (f : Fil) : Con → Nat → List Int → Con
  | c, _, [] => c
  | c, k, x :: rest => f.leftFrom (f.fated c (f.waits + k) x) (k + 1) rest
/-- What a loss of power leaves if the first waiting sectors have these fates, and the others are lost. -/
def Fil.left (f : Fil) (fates : List Int) : Con := f.leftFrom f.safe 0 fates

theorem Fil.leftFrom_snoc (f : Fil) : ∀ (c : Con) (k : Nat) (l : List Int) (x : Int), f.leftFrom c k (l ++ [x]) = f.fated (f.leftFrom c k l) (f.waits + (k + l.length)) x
  | c, k, [], x => rfl
  | c, k, y :: l, x => by
    show f.leftFrom (f.fated c (f.waits + k) y) (k + 1) (l ++ [x]) = f.fated (f.leftFrom (f.fated c (f.waits + k) y) (k + 1) l) (f.waits + (k + (l.length + 1))) x
    rw [Fil.leftFrom_snoc f _ (k + 1) l x, show k + 1 + l.length = k + (l.length + 1) by omega]
theorem Fil.left_snoc (f : Fil) (l : List Int) (x : Int) : f.left (l ++ [x]) = f.fated (f.left l) (f.waits + l.length) x := by
  have := f.leftFrom_snoc f.safe 0 l x
  rw [Nat.zero_add] at this
  exact this

/-- The fate of sector i under a list of fates. -/
def Fil.fate (f : Fil) (fates : List Int) (i : Nat) : Int := if i < f.waits then 0 else fates.getD (i - f.waits) 0
/-- The end, as seen, of sector i. -/
def Fil.fin (f : Fil) (i : Nat) : Nat := min (512 * i + 512) f.seen.data.length

/-- What is left, place by place: how long it is, what stands where, and which sectors can't be read. -/
structure Fil.Left (f : Fil) (fates : List Int) (c : Con) : Prop where
  ok : c.Ok
  long : ∀ n, c.data.length ≤ n ↔ f.safe.data.length ≤ n ∧ ∀ i, f.fate fates i ≠ 0 → f.fin i ≤ n
  byte : ∀ p, c.data.getD p 0 = if f.fate fates (p / 512) = 0 then f.safe.data.getD p 0 else if f.fate fates (p / 512) = 1 then f.seen.data.getD p 0 else 0
  bads : ∀ i, i ∈ c.bad ↔ (f.fate fates i = 0 ∧ i ∈ f.safe.bad) ∨ (f.fate fates i ≠ 0 ∧ f.fate fates i ≠ 1)

theorem Fil.fate_nil (f : Fil) (i : Nat) : f.fate [] i = 0 := by unfold Fil.fate; split <;> rfl

theorem Fil.Ok.left_nil {f : Fil} (h : f.Ok) : f.Left [] f.safe where
  ok := h.saf
  long := fun n => ⟨fun x => ⟨x, fun i hi => absurd (f.fate_nil i) hi⟩, fun x => x.1⟩
  byte := fun p => by rw [if_pos (f.fate_nil _)]
  bads := fun i => by rw [f.fate_nil]; simp

theorem Fil.fate_snoc (f : Fil) (l : List Int) (x : Int) (i : Nat) : f.fate (l ++ [x]) i = if i = f.waits + l.length then x else f.fate l i := by
  unfold Fil.fate
  by_cases h1 : i < f.waits
  · rw [if_pos h1, if_neg (by omega), if_pos h1]
  · rw [if_neg h1, if_neg h1]
    simp only [List.getD_eq_getElem?_getD]
    by_cases h2 : i = f.waits + l.length
    · rw [if_pos h2, show i - f.waits = l.length by omega]; simp
    · rw [if_neg h2]
      rcases Nat.lt_or_ge (i - f.waits) l.length with h3 | h3
      · rw [List.getElem?_append_left h3]
      · have e1 : (l ++ [x])[i - f.waits]? = none := List.getElem?_eq_none (by simp; omega)
        have e2 : l[i - f.waits]? = none := List.getElem?_eq_none (by omega)
        rw [e1, e2]

theorem Fil.Ok.left_step {f : Fil} (h : f.Ok) {l : List Int} {c : Con} (hc : f.Left l c) (x : Int) (hk : l.length < f.waiting) : f.Left (l ++ [x]) (f.fated c (f.waits + l.length) x) := by
  have hi : 512 * (f.waits + l.length) < f.seen.data.length := sec_lt.1 (by unfold Fil.waiting at hk; omega)
  have f0 : f.fate l (f.waits + l.length) = 0 := by
    unfold Fil.fate
    rw [if_neg (by omega), show f.waits + l.length - f.waits = l.length by omega]
    simp
  generalize hI : f.waits + l.length = i at *
  have fs := f.fate_snoc l x
  rw [hI] at fs
  have hn : 0 < (sect f.seen.data i).length ∧ (sect f.seen.data i).length ≤ 512 ∧ 512 * i + (sect f.seen.data i).length = f.fin i := by rw [sect_length]; unfold Fil.fin; omega
  unfold Fil.fated
  by_cases x0 : x = 0
  · subst x0
    rw [if_pos rfl]
    have e : ∀ j, f.fate (l ++ [0]) j = f.fate l j := fun j => by
      rw [fs]; split
      · rename_i e; rw [e, f0]
      · rfl
    exact ⟨hc.ok, fun n => by rw [hc.long n]; simp only [e], fun p => by rw [hc.byte p, e], fun j => by rw [hc.bads j, e]⟩
  · rw [if_neg x0]
    -- the bytes of another sector are not touched
    have div : ∀ p, 512 * i ≤ p ∧ p < 512 * i + (sect f.seen.data i).length → p / 512 = i := fun p hp => by omega
    have lenL : ∀ n, max c.data.length (f.fin i) ≤ n ↔ f.safe.data.length ≤ n ∧ ∀ j, f.fate (l ++ [x]) j ≠ 0 → f.fin j ≤ n := fun n => by
      constructor
      · intro hm
        obtain ⟨a, b⟩ := (hc.long n).1 (by omega)
        refine ⟨a, fun j hj => ?_⟩
        rw [fs] at hj
        split at hj
        · rename_i e; rw [e]; omega
        · exact b j hj
      · rintro ⟨a, b⟩
        have h1 := b i (by rw [fs, if_pos rfl]; exact x0)
        have h2 := (hc.long n).2 ⟨a, fun j hj => b j (by
          rw [fs]; split
          · exact x0
          · exact hj)⟩
        omega
    by_cases x1 : x = 1
    · subst x1
      rw [if_pos rfl]
      have hne : sect f.seen.data i ≠ [] := by intro e; rw [e] at hn; simp at hn
      have ok := hc.ok.put (512 * i) (sect f.seen.data i)
      have e : c.put (512 * i) (sect f.seen.data i) = ⟨over c.data (512 * i) (sect f.seen.data i), cutOut c.bad (512 * i / 512) (sec (512 * i + (sect f.seen.data i).length))⟩ := if_neg hne
      rw [e] at ok ⊢
      have e2 : 512 * i / 512 = i := by omega
      have e3 : sec (512 * i + (sect f.seen.data i).length) = i + 1 := by unfold sec; omega
      refine ⟨ok, fun n => ?_, fun p => ?_, fun j => ?_⟩
      · show (over _ _ _).length ≤ n ↔ _
        rw [over_length, hn.2.2]; exact lenL n
      · show (over _ _ _).getD p 0 = _
        rw [over_get]
        by_cases hp : 512 * i ≤ p ∧ p < 512 * i + (sect f.seen.data i).length
        · rw [if_pos hp, div p hp, fs, if_pos rfl, if_neg (by decide), if_pos rfl, sect_get, if_pos (by omega), show 512 * i + (p - 512 * i) = p by omega]
        · rw [if_neg hp, fs, hc.byte p]
          by_cases hd : p / 512 = i
          · have hf : f.seen.data.length ≤ p := by unfold Fil.fin at hn; omega
            have := h.len
            rw [if_pos hd, hd, f0, if_pos rfl, if_neg (by decide), if_pos rfl, getD_far _ _ (by omega), getD_far _ _ hf]
          · rw [if_neg hd]
      · show j ∈ cutOut _ _ _ ↔ _
        rw [e2, e3, mem_cutOut hc.ok.rise, hc.bads j, fs]
        by_cases e : j = i
        · subst e
          rw [if_pos rfl]
          constructor
          · rintro ⟨_, q⟩; omega
          · rintro (⟨q, _⟩ | ⟨_, q⟩)
            · exact absurd q (by decide)
            · exact absurd rfl q
        · rw [if_neg e]
          constructor
          · exact fun q => q.1
          · exact fun q => ⟨q, by omega⟩
    · rw [if_neg x1]
      have hfin : f.fin i = 512 * i + 512 ∨ f.fin i = f.seen.data.length := by unfold Fil.fin; omega
      have hcl : c.data.length ≤ f.seen.data.length := (hc.long _).2 ⟨h.len, fun j _ => by unfold Fil.fin; omega⟩
      obtain ⟨g1, g2, g3⟩ := Con.spoil_facts hc.ok i _ hn.1 hn.2.1
      refine ⟨hc.ok.spoil i _ hn.1 hn.2.1 (by omega), fun n => ?_, fun p => ?_, fun j => ?_⟩
      · rw [g1, over_length, List.length_replicate, hn.2.2]; exact lenL n
      · rw [g1, over_get, List.length_replicate]
        by_cases hp : 512 * i ≤ p ∧ p < 512 * i + (sect f.seen.data i).length
        · rw [if_pos hp, div p hp, fs, if_pos rfl, if_neg x0, if_neg x1, getD_zeros]
        · rw [if_neg hp, fs, hc.byte p]
          by_cases hd : p / 512 = i
          · have hf : f.seen.data.length ≤ p := by unfold Fil.fin at hn; omega
            have := h.len
            rw [if_pos hd, hd, f0, if_pos rfl, if_neg x0, if_neg x1, getD_far _ _ (by omega)]
          · rw [if_neg hd]
      · rw [g3, hc.bads j, fs]
        by_cases e : j = i
        · subst e
          rw [if_pos rfl]
          exact ⟨fun _ => .inr ⟨x0, x1⟩, fun _ => .inl rfl⟩
        · rw [if_neg e]
          exact ⟨fun q => q.resolve_left e, .inr⟩

/-- WHAT A LOSS OF POWER LEAVES OF A FILE. -/
theorem Fil.Ok.left_is {f : Fil} (h : f.Ok) (l : List Int) (hl : l.length ≤ f.waiting) : f.Left l (f.left l) := by
  suffices H : ∀ n, n ≤ l.length → f.Left (l.take n) (f.left (l.take n)) by
    have := H l.length (Nat.le_refl _)
    rwa [List.take_length] at this
  intro n
  induction n with
  | zero => intro _; rw [List.take_zero]; exact h.left_nil
  | succ n ih =>
    intro hn
    have e : l.take (n + 1) = l.take n ++ [l[n]] := by rw [List.take_succ_eq_append_getElem (by omega)]
    have hlen : (l.take n).length = n := by rw [List.length_take]; omega
    rw [e, f.left_snoc]
    exact h.left_step (ih (by omega)) _ (by omega)

end Go.Proofs.YtffldmeocmemeaaDoor

/- The law GcraIntervals returns true for every gap, slack and row of arrivals, and changes nothing that was there. -/
import Derived.Test.YtipbpppdifplbaaGcRows
set_option linter.unusedVariables false
namespace Go.Proofs.Ytipbpppdifplbaa
open Go Go.RowKit

theorem room_any (gap slack now n : Nat) (vt vu : Value) (T U : Nat → Nat) (L : Nat) (w : World) (hg : N64 gap) (hs : N64 slack) (hw : N64 now) (hn : N64 n) (hL : L ≤ 200)
    (ht : SlF w vt T L) (hu : SlF w vu U L) (hT : ∀ i, i < L → N64 (T i) ∧ N64 (U i)) (hrun : gRunI gap T U L ≤ 18446744073709551615) :
    Calls Try.prog 24 #[V gap, V slack, vt, vu, V now, V n] w fun e w' => ∃ x : Nat, e = .returned (.tuple #[.bool (decide (GFits gap slack (gRunI gap T U L) now n)), V x]) ∧ Hid (GFits gap slack (gRunI gap T U L) now n → x = gTat gap slack (gRunI gap T U L) now n) ∧ Up w w' := by
  by_cases h : n = 0 ∨ gap = 0
  · have hf : ¬ GFits gap slack (gRunI gap T U L) now n := fun hf => by have := hf.1; have := hf.2.1; omega
    rw [decide_eq_false hf]
    exact (room_zero gap slack now n vt vu h w).mono fun e w' ⟨h1, h2⟩ => ⟨0, h1, fun x => absurd x hf, h2⟩
  · obtain ⟨r1, r2⟩ := room_is gap slack now n T U L (by omega)
    have e1 : gBase (gRunI gap T U L) now + n * gap = gXI gap (n * gap) T U (now + n * gap) 0 L := r1.symm
    have hb := base_sum_lt gap now n hg hw hn
    have hm1 : N64 (n - 1) := by unfold N64 at *; omega
    have hb2 := base_sum_lt gap now (n - 1) hg hw hm1
    have hmm := mul_lt n gap hn hg
    have hmp := mul_lt (n - 1) gap hm1 hg
    have big : ∀ m a, N64 m → a ≤ 18446744073709551615 → N128 (a + m * gap) := fun m a h1 h2 => by
      have := base_sum_lt gap a m hg (by unfold N64; omega) h1
      rw [Nat.add_comm]; exact this
    have ofx : ∀ x, N64 x → RCall 22 #[V x] (Wd x) := fun x h w => Of_any x h w
    have prod : ∀ x, N64 x → RCall 20 #[V x, V gap] (Wd (x * gap)) := fun x h w => Product_any x gap h hg w
    have plus : ∀ x y, N128 (x + y) → RCall 21 #[Wd x, Wd y] (Wd (x + y)) := fun x y h w => by
      have k := Plus_any x y (by unfold N128 at *; omega) (by unfold N128 at *; omega) w
      rw [plus_small x y h] at k
      exact k
    have cmp : ∀ x y, RCall 23 #[Wd x, Wd y] (.int .i64 (cmpN x y)) := fun x y w => Cmp_any x y w
    have hK : Kt gap n (n - 1) ((n - 1) * gap) (n * gap) := ⟨ofx, prod, plus, prod (n - 1) hm1, prod n hn, fun a h => big (n - 1) a hm1 h, fun a h => big n a hn h, cmp⟩
    have hc0 : decide (cmpN (now + (n - 1) * gap) (now + slack) ≤ 0) = decide (now + (n - 1) * gap ≤ now + slack) := by
      unfold cmpN
      by_cases c : now + (n - 1) * gap ≤ now + slack
      · rw [decide_eq_true c]; apply decide_eq_true; split
        · omega
        · split <;> omega
      · rw [decide_eq_false c]; apply decide_eq_false; rw [if_neg (by omega), if_neg (by omega)]; omega
    have key := room_walk w gap slack now n (n - 1) ((n - 1) * gap) (n * gap) (now + slack) L _ _ vt vu T U (ne_int n (by omega)) (ne_int gap (by omega)) (by omega) ht hu hT hrun (by rw [IntKind.wrap_u64]; unfold N64 at hn; omega)
      (ofx now hw) (ofx slack hs) (plus now slack (by unfold N64 N128 at *; omega)) (prod (n - 1) hm1) (plus now _ (by rw [Nat.add_comm]; exact hb2)) (cmp _ _) hc0 (prod n hn) (plus now _ (by rw [Nat.add_comm]; exact hb))
      (fun w => Of_any 0 (by unfold N64; omega) w) hK _ _ rfl rfl
    refine key.mono ?_
    rintro e w' ⟨y, sm, rfl, hN, hup⟩
    have hsm : sm = decide (gXI gap (n * gap) T U (now + n * gap) 0 L < 18446744073709551616) := by
      rcases hN.out with ⟨a, b, c⟩ | ⟨a, b, c⟩
      · rw [b, decide_eq_true a]
      · rw [b, decide_eq_false (by omega)]
    refine ⟨y, by rw [hsm, r2], fun hf => ?_, hup⟩
    rcases hN.out with ⟨a, b, c⟩ | ⟨a, b, c⟩
    · rw [c, ← e1, gTat, if_pos hf]
    · have := hf.2.2.2; omega

/-- The run of two rows. -/
def runL (gap : Nat) (ts us : List Nat) : Nat := gRunI gap (fun i => ts.getD i 0) (fun i => us.getD i 0) ts.length
theorem run_push (gap : Nat) (ts us : List Nat) (d n : Nat) (h : us.length = ts.length) : runL gap (ts ++ [d]) (us ++ [n]) = gBase (runL gap ts us) d + n * gap := by
  unfold runL
  rw [List.length_append]
  show gBase (gRunI gap _ _ ts.length) ((ts ++ [d]).getD ts.length 0) + (us ++ [n]).getD ts.length 0 * gap = _
  have e1 : (ts ++ [d]).getD ts.length 0 = d := by simp
  have e2 : (us ++ [n]).getD ts.length 0 = n := by rw [← h]; simp
  rw [e1, e2]
  rw [run_same gap (fun i => (ts ++ [d]).getD i 0) (fun i => (us ++ [n]).getD i 0) (fun i => ts.getD i 0) (fun i => us.getD i 0) ts.length (fun i hi => ⟨?_, ?_⟩)]
  · show (ts ++ [d]).getD i 0 = ts.getD i 0
    simp [List.getElem?_append_left hi]
  · show (us ++ [n]).getD i 0 = us.getD i 0
    simp [List.getElem?_append_left (show i < us.length by omega)]

/-- What a round keeps of the two rows. -/
structure Iv (w0 w : World) (gap : Nat) (vt vu : Value) (ts us : List Nat) (k tat now : Nat) : Prop where
  tw : Tw w0 w vt vu ts us
  len : us.length = ts.length
  few : ts.length ≤ k
  run : runL gap ts us = tat
  top : tat ≤ 18446744073709551615
  nw : N64 now
  all : ∀ i, i < ts.length → N64 (ts.getD i 0) ∧ N64 (us.getD i 0)
theorem Iv.empty {w0 w : World} (h : Up w0 w) (gap : Nat) : Iv w0 w gap (.slice none 0 0) (.slice none 0 0) [] [] 0 0 0 :=
  ⟨Tw.empty h, rfl, Nat.le_refl _, rfl, by omega, by unfold N64; omega, fun i hi => by cases hi⟩
theorem Iv.grow {w0 w w' : World} {gap : Nat} {vt vu : Value} {ts us : List Nat} {k tat now : Nat} (h : Iv w0 w gap vt vu ts us k tat now) (hu : Up w w') : Iv w0 w' gap vt vu ts us k tat now :=
  ⟨h.tw.grow hu, h.len, h.few, h.run, h.top, h.nw, h.all⟩
theorem Iv.time {w0 w : World} {gap : Nat} {vt vu : Value} {ts us : List Nat} {k tat now : Nat} (h : Iv w0 w gap vt vu ts us k tat now) (now' : Nat) (hn : N64 now') : Iv w0 w gap vt vu ts us k tat now' :=
  ⟨h.tw, h.len, h.few, h.run, h.top, hn, h.all⟩
theorem Iv.next {w0 w : World} {gap : Nat} {vt vu : Value} {ts us : List Nat} {k tat now : Nat} (h : Iv w0 w gap vt vu ts us k tat now) : Iv w0 w gap vt vu ts us (k + 1) tat now :=
  ⟨h.tw, h.len, Nat.le_succ_of_le h.few, h.run, h.top, h.nw, h.all⟩
/-- The units are admitted: both rows have grown. -/
theorem Iv.push {w0 w w' : World} {gap slack : Nat} {vt vu vt' vu' : Value} {ts us : List Nat} {k tat now n : Nat} (h : Iv w0 w gap vt vu ts us k tat now) (hn : N64 n) (hf : GFits gap slack tat now n)
    (ht : Tw w0 w' vt' vu' (ts ++ [now]) (us ++ [n])) : Iv w0 w' gap vt' vu' (ts ++ [now]) (us ++ [n]) (k + 1) (gTat gap slack tat now n) now := by
  have hlen := h.len
  have hfew := h.few
  refine ⟨ht, by simp [hlen], by simp; exact hfew, ?_, ?_, h.nw, fun i hi => ?_⟩
  · rw [run_push gap ts us now n h.len, h.run, gTat, if_pos hf]
  · rw [gTat, if_pos hf]; exact hf.2.2.2
  · simp only [List.length_append, List.length_cons, List.length_nil] at hi
    by_cases c : i < ts.length
    · have a := h.all i c
      have e1 : (ts ++ [now]).getD i 0 = ts.getD i 0 := by simp [List.getElem?_append_left c]
      have e2 : (us ++ [n]).getD i 0 = us.getD i 0 := by simp [List.getElem?_append_left (show i < us.length by omega)]
      rw [e1, e2]; exact a
    · obtain rfl : i = ts.length := by omega
      have e1 : (ts ++ [now]).getD ts.length 0 = now := by simp
      have e2 : (us ++ [n]).getD ts.length 0 = n := by rw [← h.len]; simp
      rw [e1, e2]; exact ⟨h.nw, hn⟩
end Go.Proofs.Ytipbpppdifplbaa

/- Merged: GcRef, GcS2, GcFits, GcRefR. -/
import Derived.Test.YtdddfapelencoaaDoorGcCalls
import Derived.Deep.RegionHeld3
import Derived.BigQuiet
import Derived.Deep.QuietTactic
import Derived.Deep.DeepCutAuto
set_option linter.unusedVariables false
namespace Go.Proofs.YtdddfapelencoaaDoor
open Go Go.RowKit



theorem rplus_halves (a b : Nat) (hab : N128 (a + b)) : ∃ L H : Nat, IntKind.u64.wrap ((loN a : Int) + (loN b : Int)) = (L : Int) ∧ IntKind.u64.wrap ((hiN a : Int) + (hiN b : Int)) = (H : Int) ∧ loN (a + b) = L ∧
    ((L < loN a ∧ ∃ K : Nat, IntKind.u64.wrap ((H : Int) + 1) = (K : Int) ∧ hiN (a + b) = K) ∨ (¬ L < loN a ∧ hiN (a + b) = H)) := by
  refine ⟨loN (a + b), hiN a + hiN b, ?_, ?_, rfl, ?_⟩
  · rw [IntKind.wrap_u64]; unfold loN; omega
  · rw [IntKind.wrap_u64]; unfold hiN N128 at *; omega
  · by_cases h : loN (a + b) < loN a
    · exact Or.inl ⟨h, hiN (a + b), by rw [IntKind.wrap_u64]; unfold hiN loN N128 at *; omega, rfl⟩
    · exact Or.inr ⟨h, by unfold hiN loN N128 at *; omega⟩



theorem rtimes_num (a b : Nat) (ha : N64 a) (hb : N64 b) : ∃ a1 a0 b1 b0 x y m z n o h l : Nat,
    (a : Int) / 4294967296 = (a1 : Int) ∧ (a : Int) % 4294967296 = (a0 : Int) ∧ (b : Int) / 4294967296 = (b1 : Int) ∧ (b : Int) % 4294967296 = (b0 : Int) ∧
    IntKind.u64.wrap (a1 : Int) = a1 ∧ IntKind.u64.wrap (a0 : Int) = a0 ∧ IntKind.u64.wrap (b1 : Int) = b1 ∧ IntKind.u64.wrap (b0 : Int) = b0 ∧
    IntKind.u64.wrap ((a1 : Int) * (b0 : Int)) = (x : Int) ∧ IntKind.u64.wrap ((a0 : Int) * (b1 : Int)) = (y : Int) ∧ x + y = m ∧
    IntKind.u64.wrap ((a1 : Int) * (b1 : Int)) = (z : Int) ∧ IntKind.u64.wrap ((a0 : Int) * (b0 : Int)) = (n : Int) ∧ z * 18446744073709551616 + n = o ∧
    N64 x ∧ N64 y ∧ N64 z ∧ N64 n ∧ N128 m ∧ N128 o ∧
    IntKind.u64.wrap ((hiN m : Int) * 4294967296) = ((hiN m * 4294967296 : Nat) : Int) ∧ (loN m : Int) / 4294967296 = ((loN m / 4294967296 : Nat) : Int) ∧ IntKind.u64.wrap ((loN m / 4294967296 : Nat) : Int) = ((loN m / 4294967296 : Nat) : Int) ∧
    IntKind.u64.wrap (((hiN m * 4294967296 : Nat) : Int) + ((loN m / 4294967296 : Nat) : Int)) = (h : Int) ∧ IntKind.u64.wrap ((loN m : Int) * 4294967296) = (l : Int) ∧ N64 h ∧ N64 l ∧ o + (h * 18446744073709551616 + l) = a * b := by
  unfold N64 at ha hb
  obtain ⟨a1, h1⟩ : ∃ a1, a / 4294967296 = a1 := ⟨_, rfl⟩
  obtain ⟨a0, h0⟩ : ∃ a0, a % 4294967296 = a0 := ⟨_, rfl⟩
  obtain ⟨b1, g1⟩ : ∃ b1, b / 4294967296 = b1 := ⟨_, rfl⟩
  obtain ⟨b0, g0⟩ : ∃ b0, b % 4294967296 = b0 := ⟨_, rfl⟩
  have p1 := Nat.mul_le_mul (show a1 ≤ 4294967295 by omega) (show b0 ≤ 4294967295 by omega)
  have p2 := Nat.mul_le_mul (show a0 ≤ 4294967295 by omega) (show b1 ≤ 4294967295 by omega)
  have p3 := Nat.mul_le_mul (show a1 ≤ 4294967295 by omega) (show b1 ≤ 4294967295 by omega)
  have p4 := Nat.mul_le_mul (show a0 ≤ 4294967295 by omega) (show b0 ≤ 4294967295 by omega)
  have ea : a = a1 * 4294967296 + a0 := by omega
  have eb : b = b1 * 4294967296 + b0 := by omega
  have ep : a * b = (a1 * b1) * 18446744073709551616 + (a1 * b0 + a0 * b1) * 4294967296 + a0 * b0 := by
    rw [ea, eb]
    have : (a1 * 4294967296 + a0) * (b1 * 4294967296 + b0) = a1 * 4294967296 * (b1 * 4294967296) + a1 * 4294967296 * b0 + (a0 * (b1 * 4294967296) + a0 * b0) := by
      rw [Nat.add_mul, Nat.mul_add, Nat.mul_add]
    rw [this, Nat.mul_mul_mul_comm, Nat.mul_right_comm a1 4294967296 b0, ← Nat.mul_assoc a0 b1]
    omega
  refine ⟨a1, a0, b1, b0, a1 * b0, a0 * b1, a1 * b0 + a0 * b1, a1 * b1, a0 * b0, a1 * b1 * 18446744073709551616 + a0 * b0, hiN (a1 * b0 + a0 * b1) * 4294967296 + loN (a1 * b0 + a0 * b1) / 4294967296, loN (a1 * b0 + a0 * b1) % 4294967296 * 4294967296, ?_⟩
  rw [ep]
  clear ep
  simp only [mul_n]
  generalize a1 * b0 = x at *
  generalize a0 * b1 = y at *
  generalize a1 * b1 = z at *
  generalize a0 * b0 = n at *
  simp only [IntKind.wrap_u64]
  unfold N64 N128 hiN loN
  refine ⟨by omega, by omega, by omega, by omega, by omega, by omega, by omega, by omega, by omega, by omega, trivial, by omega, by omega, trivial, by omega, by omega, by omega, by omega, by omega, by omega, by omega, by omega, by omega, by omega, by omega, by omega, by omega, by omega⟩

theorem wd_eq (n h l : Nat) (h1 : hiN n = h) (h2 : loN n = l) : Wd n = .agg #[V h, V l] := by simp only [Wd, h1, h2]

end Go.Proofs.YtdddfapelencoaaDoor

set_option linter.unusedVariables false
namespace Go.Proofs.YtdddfapelencoaaDoor
open Go Go.RowKit

/-- The box with the number alone. -/
abbrev S2 (w : World) (k N : Nat) (w' : World) : Prop := w'.cell? ⟨k, 0, none⟩ = some (V (hiN N)) ∧ w'.cell? ⟨k, 1, none⟩ = some (V (loN N)) ∧ Up w w'
theorem s2_grow {w : World} {k N : Nat} {w' w'' : World} (h : S2 w k N w') (hu : Up w' w'') : S2 w k N w'' := by
  obtain ⟨h0, h1, h2⟩ := h
  have hc := (bcell hu).1
  exact ⟨by rw [hc _ _ (World.block_lt_of_cell? w' _ h0)]; exact h0, by rw [hc _ _ (World.block_lt_of_cell? w' _ h1)]; exact h1, h2.trans hu⟩
end Go.Proofs.YtdddfapelencoaaDoor

set_option linter.unusedVariables false
namespace Go.Proofs.YtdddfapelencoaaDoor
open Go Go.RowKit


/-- A box with a number of 128 bits of the reference's. -/
theorem s2_new {w w' : World} (h : Up w w') (N : Nat) (t : TypeId) : S2 w w'.heap.size N (w'.alloc (.cells #[V (hiN N), V (loN N)] t)) :=
  ⟨by rw [cell_of_row _ _ _ _ _ _ (heap_alloc_new _ _)]; rfl, by rw [cell_of_row _ _ _ _ _ _ (heap_alloc_new _ _)]; rfl, h.trans (Up.alloc _ _)⟩

/-- Blocks from B on are new since w0. -/
theorem from_up {B : Nat} {w0 w w' : World} (h : Below B w0 w) (e : B = w0.heap.size) (u : Up w w') : Below B w0 w' := h.trans (u.mono (by rw [e]; exact h.size))
theorem from_al {B : Nat} {w0 w : World} (h : Below B w0 w) (e : B = w0.heap.size) (o : Obj) : Below B w0 (w.alloc o) := h.alloc (by rw [e]; exact h.size) o
theorem from_alup {B : Nat} {w0 w w' : World} {o : Obj} (h : Below B w0 w) (e : B = w0.heap.size) (u : Up (w.alloc o) w') : Below B w0 w' := from_up (from_al h e o) e u

/-- A box that was made behind a draw. -/
theorem al_cell {w w' : World} {a0 a1 : Value} {t : TypeId} (u : Up (w.drew.alloc (.cells #[a0, a1] t)) w') :
    w'.cell? ⟨w.heap.size, 0, none⟩ = some a0 ∧ w'.cell? ⟨w.heap.size, 1, none⟩ = some a1 ∧ (∀ o, w'.frozen? ⟨w.heap.size, o, none⟩ = false) ∧ w.heap.size < w'.heap.size := by
  have hc := bcell u
  have hz : w.heap.size < (w.drew.alloc (.cells #[a0, a1] t)).heap.size := by simp
  refine ⟨?_, ?_, ?_, Nat.lt_of_lt_of_le hz u.size⟩
  · rw [hc.1 _ _ hz]; exact cell_of_row _ _ _ _ _ _ (heap_alloc_new w.drew _)
  · rw [hc.1 _ _ hz]; exact cell_of_row _ _ _ _ _ _ (heap_alloc_new w.drew _)
  · intro o
    rw [hc.2 _ _ hz]
    exact World.frozen?_alloc_new (w := w.drew) _ _ _

/-- The same with no draw ahead. -/
theorem al_cell' {w w' : World} {a0 a1 : Value} {t : TypeId} (u : Up (w.alloc (.cells #[a0, a1] t)) w') :
    w'.cell? ⟨w.heap.size, 0, none⟩ = some a0 ∧ w'.cell? ⟨w.heap.size, 1, none⟩ = some a1 ∧ (∀ o, w'.frozen? ⟨w.heap.size, o, none⟩ = false) ∧ w.heap.size < w'.heap.size := by
  have hc := bcell u
  have hz : w.heap.size < (w.alloc (.cells #[a0, a1] t)).heap.size := by simp
  refine ⟨?_, ?_, ?_, Nat.lt_of_lt_of_le hz u.size⟩
  · rw [hc.1 _ _ hz]; exact cell_of_row _ _ _ _ _ _ (heap_alloc_new w _)
  · rw [hc.1 _ _ hz]; exact cell_of_row _ _ _ _ _ _ (heap_alloc_new w _)
  · intro o
    rw [hc.2 _ _ hz]
    exact World.frozen?_alloc_new (w := w) _ _ _

/-- A number is written into a box of the call's own. -/
theorem s2_store {w w' : World} {k N : Nat} {u0 u1 : Value} (h : Up w w') (hk : w.heap.size ≤ k) (c0 : w'.cell? ⟨k, 0, none⟩ = some u0) (c1 : w'.cell? ⟨k, 1, none⟩ = some u1) :
    S2 w k N ((w'.setCell ⟨k, 0, none⟩ (V (hiN N))).setCell ⟨k, 1, none⟩ (V (loN N))) := by
  refine ⟨?_, ?_, (h.setCell hk _).setCell hk _⟩
  · rw [World.cell?_setCell_other _ _ _ _ (by simp)]; exact World.cell?_setCell_same _ _ _ c0
  · exact World.cell?_setCell_same _ _ _ (by rw [World.cell?_setCell_other _ _ _ _ (by simp)]; exact c1)

abbrev RCall (f : Nat) (args : Array Value) (v : Value) : Prop := ∀ w, Calls Tryd.prog f args w fun e w' => e = .returned v ∧ Up w w'



end Go.Proofs.YtdddfapelencoaaDoor

set_option linter.unusedVariables false
namespace Go.Proofs.YtdddfapelencoaaDoor
open Go Go.RowKit

/-- Up to tat waiting makes it no worse. -/
theorem fits_upto {gap slack tat t u n : Nat} (h : GFits gap slack tat t n) (h1 : t ≤ u) (h2 : u ≤ tat) : GFits gap slack tat u n := by
  have b1 := gBase_max tat t
  have b2 := gBase_max tat u
  obtain ⟨f1, f2, f3, f4⟩ := h
  exact ⟨f1, f2, by omega, by omega⟩
/-- Behind tat it makes it no better. -/
theorem fits_behind {gap slack tat t u n : Nat} (h : GFits gap slack tat u n) (h1 : t ≤ u) (h2 : tat ≤ t) : GFits gap slack tat t n := by
  have b1 := gBase_max tat t
  have b2 := gBase_max tat u
  obtain ⟨f1, f2, f3, f4⟩ := h
  exact ⟨f1, f2, by omega, by omega⟩

theorem retry_now {gap slack tat now n : Nat} (h : GFits gap slack tat now n) : gRetry gap slack tat now n = now := by
  by_cases c : n = 0 ∨ gap = 0 ∨ slack < (n - 1) * gap ∨ 18446744073709551615 < gBase tat now + n * gap
  · exact absurd h (retry_never c now (Nat.le_refl _))
  · obtain ⟨r1, r2, r3, r4⟩ := retry_least c
    rcases Nat.lt_or_ge now (gRetry gap slack tat now n) with d | d
    · exact absurd h (r4 now (Nat.le_refl _) d)
    · omega
theorem retry_none {gap slack tat now n : Nat} (h : ¬ GFits gap slack tat now n) (h2 : tat ≤ now ∨ ¬ GFits gap slack tat tat n) : gRetry gap slack tat now n = 18446744073709551615 := by
  rw [retry_is]
  intro t ht hf
  rcases Nat.lt_or_ge tat now with c | c
  · exact h (fits_behind hf ht (by omega))
  · have hc : ¬ GFits gap slack tat tat n := by
      rcases h2 with h2 | h2
      · obtain rfl : tat = now := by omega
        exact h
      · exact h2
    rcases Nat.lt_or_ge tat t with d | d
    · exact hc (fits_behind hf (by omega) (Nat.le_refl _))
    · exact hc (fits_upto hf d (Nat.le_refl _))
theorem retry_mid {gap slack tat now n no yes : Nat} (h1 : now ≤ no) (h2 : yes = no + 1) (h3 : yes ≤ tat) (hn : ¬ GFits gap slack tat no n) (hy : GFits gap slack tat yes n) : gRetry gap slack tat now n = yes := by
  by_cases c : n = 0 ∨ gap = 0 ∨ slack < (n - 1) * gap ∨ 18446744073709551615 < gBase tat now + n * gap
  · exact absurd hy (retry_never c yes (by omega))
  · obtain ⟨r1, r2, r3, r4⟩ := retry_least c
    generalize gRetry gap slack tat now n = R at *
    rcases Nat.lt_or_ge yes R with d | d
    · exact absurd hy (r4 yes (by omega) d)
    · rcases Nat.lt_or_ge no R with e | e
      · omega
      · exact absurd (fits_upto r3 e (by omega)) hn

/-- What a round of the halving for the least time keeps. -/
structure Rh (gap slack tat now n no yes : Nat) : Prop where
  lo : now ≤ no
  lt : no < yes
  hi : yes ≤ tat
  out : ¬ GFits gap slack tat no n
  fit : GFits gap slack tat yes n

/-- The numbers of one halving: how far apart, half of it, the middle. -/
theorem half_num (a b : Nat) (hab : a < b) (hb : N64 b) : ∃ D H M : Nat, b - a = D ∧ IntKind.u64.wrap ((b : Int) - (a : Int)) = (D : Int) ∧ (D : Int) / 2 = (H : Int) ∧ IntKind.u64.wrap (H : Int) = (H : Int) ∧ IntKind.u64.wrap ((a : Int) + (H : Int)) = (M : Int) ∧ (1 < D → a < M ∧ M < b) ∧ N64 M := by
  refine ⟨b - a, (b - a) / 2, a + (b - a) / 2, rfl, sub_n b a (by omega) hb, by omega, wrap_n _ ?_, ?_, fun h => by omega, ?_⟩
  · unfold N64 at *; omega
  · rw [add_n]; exact wrap_n _ (by unfold N64 at *; omega)
  · unfold N64 at *; omega


/-- What a round of the halving for the greatest number keeps. -/
structure Bh (gap slack tat now yes no : Nat) : Prop where
  lo : 1 ≤ yes
  lt : yes < no
  hi : no ≤ 18446744073709551615
  fit : GFits gap slack tat now yes
  out : ¬ GFits gap slack tat now no

theorem burst_mid {gap slack tat now yes no : Nat} (h : Bh gap slack tat now yes no) (e : no = yes + 1) : yes = gBurst gap slack tat now := by
  have h1 := (burst_is yes).1 h.fit
  have h2 := fun x => h.out ((burst_is no).2 x)
  have := h.lo
  rcases Nat.lt_or_ge yes (gBurst gap slack tat now) with d | d
  · exact absurd ⟨by omega, by omega⟩ h2
  · omega


end Go.Proofs.YtdddfapelencoaaDoor

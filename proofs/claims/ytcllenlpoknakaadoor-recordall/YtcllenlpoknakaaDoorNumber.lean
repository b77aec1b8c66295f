/- pack: what PutNumber answers, likewise. -/
import Derived.Test.YtcllenlpoknakaaDoorPuts
namespace Go.Proofs.YtcllenlpoknakaaDoor
open Go Go.RowKit

/-- x in groups of seven bits, the lowest first; f: so many groups at the most. -/
def vnF : Nat → Nat → List UInt8
  | 0, _ => []
  | f + 1, x => if x < 128 then [UInt8.ofNat x] else UInt8.ofNat (x % 128 + 128) :: vnF f (x / 128)
def vn (x : Nat) : List UInt8 := vnF 10 x

theorem vnF_length (f x : Nat) : (vnF f x).length ≤ f := by
  induction f generalizing x with
  | zero => simp [vnF]
  | succ f ih => have := ih (x / 128); unfold vnF; split <;> simp <;> omega

/-- What PutNumber's loop keeps: done is put, y is left, in f + 1 groups at the most. -/
def NumInv (x f y : Nat) (done : List UInt8) : Prop := f ≤ 9 ∧ y < 128 ^ (f + 1) ∧ done.length + f ≤ 9 ∧ vn x = done ++ vnF (f + 1) y

theorem NumInv.start (x : Nat) (hx : x < 2 ^ 64) : NumInv x 9 x [] := ⟨by omega, by omega, by simp, rfl⟩
theorem NumInv.next {x f y : Nat} {done : List UInt8} (h : NumInv x f y done) (hy : 128 ≤ y) : NumInv x (f - 1) (y / 128) (done ++ [UInt8.ofNat (y % 128 + 128)]) := by
  obtain ⟨h1, h2, h3, h4⟩ := h
  cases f with
  | zero => omega
  | succ f =>
    refine ⟨by omega, ?_, by simp; omega, ?_⟩
    · rw [Nat.pow_succ] at h2
      simpa using Nat.div_lt_of_lt_mul (by rwa [Nat.mul_comm] at h2)
    · rw [h4, vnF, if_neg (by omega)]
      simp
theorem NumInv.done {x f y : Nat} {done : List UInt8} (h : NumInv x f y done) (hy : y < 128) : vn x = done ++ [UInt8.ofNat y] := by
  rw [h.2.2.2, vnF, if_pos hy]
theorem NumInv.len {x f y : Nat} {done : List UInt8} (h : NumInv x f y done) : done.length ≤ 9 := by have := h.2.2.1; omega

theorem or128_fin : ∀ a : Fin 256, bits .or .u8 (a.val : Int) 128 = ((a.val % 128 + 128 : Nat) : Int) := by decide +kernel
theorem or128_any (y : Nat) : bits .or .u8 ((y : Int) % 256) 128 = ((y % 128 + 128 : Nat) : Int) := by
  have h := or128_fin ⟨y % 256, Nat.mod_lt _ (by omega)⟩
  have e : (((y % 256 : Nat)) : Int) = (y : Int) % 256 := by omega
  simp only [e] at h
  rw [h]
  congr 1
  omega

end Go.Proofs.YtcllenlpoknakaaDoor

/- pack: what PutNumber answers, likewise. -/
import Derived.Test.YtpjpjoefmnnpmaaDoorPuts
namespace Go.Proofs.YtpjpjoefmnnpmaaDoor
open Go Go.RowKit

/-- x in groups of seven bits, the lowest first; f: so many groups at the most. -/
def vnF : Nat → Nat → List UInt8
  | 0, _ => []
  | f + 1, x => if x < 128 then [UInt8.ofNat x] else UInt8.ofNat (x % 128 + 128) :: vnF f (x / 128)
def vn (x : Nat) : List UInt8 := vnF 10 x

theorem vnF_length (f x : Nat) : (vnF f x).length ≤ f := by
  induction f generalizing x with
  | zero => simp [vnF]
  | succ f ih => have := ih (x / 128); unfold vnF; split <;> simp <;> omega

/-- What PutNumber's loop keeps: done is put, y is left, in f + 1 groups at the most. -/
def NumInv (x f y : Nat) (done : List UInt8) : Prop := f ≤ 9 ∧ y < 128 ^ (f + 1) ∧ done.length + f ≤ 9 ∧ vn x = done ++ vnF (f + 1) y

theorem NumInv.start (x : Nat) (hx : x < 2 ^ 64) : NumInv x 9 x [] := ⟨by omega, by omega, by simp, rfl⟩
theorem NumInv.next {x f y : Nat} {done : List UInt8} (h : NumInv x f y done) (hy : 128 ≤ y) : NumInv x (f - 1) (y / 128) (done ++ [UInt8.ofNat (y % 128 + 128)]) := by
  obtain ⟨h1, h2, h3, h4⟩ := h
  cases f with
  | zero => omega
  | succ f =>
    refine ⟨by omega, ?_, by simp; omega, ?_⟩
    · rw [Nat.pow_succ] at h2
      simpa using Nat.div_lt_of_lt_mul (by rwa [Nat.mul_comm] at h2)
    · rw [h4, vnF, if_neg (by omega)]
      simp
theorem NumInv.done {x f y : Nat} {done : List UInt8} (h : NumInv x f y done) (hy : y < 128) : vn x = done ++ [UInt8.ofNat y] := by
  rw [h.2.2.2, vnF, if_pos hy]
theorem NumInv.len {x f y : Nat} {done : List UInt8} (h : NumInv x f y done) : done.length ≤ 9 := by have := h.2.2.1; omega

theorem or128_fin : ∀ a : Fin 256, bits .or .u8 (a.val : Int) 128 = ((a.val % 128 + 128 : Nat) : Int) := by decide +kernel
theorem or128_any (y : Nat) : bits .or .u8 ((y : Int) % 256) 128 = ((y % 128 + 128 : Nat) : Int) := by
  have h := or128_fin ⟨y % 256, Nat.mod_lt _ (by omega)⟩
  have e : (((y % 256 : Nat)) : Int) = (y : Int) % 256 := by omega
  simp only [e] at h
  rw [h]
  congr 1
  omega

set_option maxHeartbeats 400000 in
theorem PutNumber_any (v : Value) (bs : List UInt8) (x : Nat) (w : World) (hs : Sl 0 w v bs) (hl : bs.length ≤ 140737488351232) (hx : x < 2 ^ 64) :
    Calls Tryd.prog 25 #[v, .int .u64 x] w fun e w' => ∃ v', e = .returned v' ∧ Own w' 5 w.heap.size v' (bs ++ vn x) ∧ Up w w' := by
  have hst := NumInv.start x hx
  clear hx
  go_enter Tryd.func25, Tryd.ntmps25
  go_wp2_with fail
  refine (copyWithRoom_any v bs 10 _ hs hl (by omega)).mono ?_
  rintro e w1 ⟨v1, rfl, ho, hu⟩
  go_wp2_with fail
  go_loopw [1, 5] (fun y s wr => ∃ (f y' : Nat) (done : List UInt8), y = .int .u64 y' ∧ NumInv x f y' done ∧ Own wr 5 w.heap.size s (bs ++ done) ∧ Up w wr) (fun y _ _ => (intOf y).toNat)
  case atStart => exact ⟨9, x, [], rfl, hst, by simpa using ho, hu⟩
  case round =>
    obtain ⟨f, y, done, rfl, hinv, hown, hup⟩ := hrel
    by_cases hlt : (128 : Int) ≤ (y : Int)
    · go_wp2_with (at_builtin; refine wpList_push _ rfl (.tmp 10) (.tmp 14) rfl w.heap.size _ _ rfl _ rfl hown ?hb ?hl (UInt8.ofNat (y % 128 + 128)) ?hc ?_)
      case hb => have := hup.size; omega
      case hl => have := hinv.len; simp; omega
      case hc => rw [or128_any y, UInt8.toNat_ofNat']; omega
      intro v' w' ho' hb'
      have hnx := hinv.next (by omega)
      clear hinv hown
      go_wp2
      go_roundw
      case rel =>

        exact ⟨f - 1, y / 128, done ++ [UInt8.ofNat (y % 128 + 128)], by simp, hnx, by simpa using ho', Below.trans hup hb'⟩
      case measure => simp [intOf]; omega
    · have Hfin : Hid (vn x = done ++ [UInt8.ofNat y]) := hinv.done (by omega)
      go_wp2_with (at_builtin; refine wpList_push _ rfl (.tmp 18) (.tmp 21) rfl w.heap.size _ _ rfl _ rfl hown ?hb2 ?hl2 (UInt8.ofNat y) ?hc2 ?_)
      case hb2 => have := hup.size; omega
      case hl2 => have := hinv.len; simp; omega
      case hc2 => omega
      intro v' w' ho' hb'
      go_wp2
      go_ret
      rw [← Hfin.out] at ho'
      exact ⟨_, rfl, ho', Below.trans hup hb'⟩
end Go.Proofs.YtpjpjoefmnnpmaaDoor

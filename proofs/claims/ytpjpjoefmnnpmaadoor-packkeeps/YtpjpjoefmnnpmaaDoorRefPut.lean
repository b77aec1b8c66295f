/- The reference's put calls of layer 1: what they answer. -/
import Derived.Test.YtpjpjoefmnnpmaaDoorNumber
set_option linter.unusedVariables false
namespace Go.Proofs.YtpjpjoefmnnpmaaDoor
open Go Go.RowKit

/-- A row of n bytes at the head of block g, the first k of them those of bs. -/
def Fill (w : World) (g n k : Nat) (bs : List UInt8) : Prop := ∃ cur, w.heap[g]? = some (.cells cur 5 (0, 0)) ∧ cur.size = n ∧ cur.toList.take k = Bv (bs.take k)

theorem Fill.cell {w : World} {g n k : Nat} {bs : List UInt8} (h : Fill w g n k bs) (hk : k < n) : (∃ v, w.cell? ⟨g, k, none⟩ = some v) ∧ w.frozen? ⟨g, k, none⟩ = false := by
  obtain ⟨cur, h1, h2, _⟩ := h
  refine ⟨⟨cur[k]'(by omega), ?_⟩, by simp [World.frozen?, h1]⟩
  rw [cell_of_row w g k cur _ _ h1]
  simp [h2, hk]

theorem Fill.next {w : World} {g n k : Nat} {bs : List UInt8} (h : Fill w g n k bs) (hk : k < n) (hn : n = bs.length) : Fill (w.setCell ⟨g, k, none⟩ (B (bs[k]'(by omega)))) g n (k + 1) bs := by
  obtain ⟨cur, h1, h2, h3⟩ := h
  refine ⟨cur.setIfInBounds k (B (bs[k]'(by omega))), ?_, by simp [h2], ?_⟩
  · rw [setCell_eq_setRow w g k cur 5 (0, 0) _ h1]
    exact setRow_heap w g cur _ _ _ h1
  · have hk2 : k < bs.length := by omega
    rw [Array.toList_setIfInBounds]
    apply List.ext_getElem?
    intro i
    by_cases hi : i < k
    · have := congrArg (·[i]?) h3
      simp only [List.getElem?_take, if_pos hi] at this
      simp only [List.getElem?_take, if_pos (show i < k + 1 by omega), List.getElem?_set_ne (show k ≠ i by omega), this]
      simp [hi, show i < k + 1 by omega]
    · by_cases he : i = k
      · subst he
        simp [h2, hk, hk2]
      · simp [List.getElem?_take, show ¬ i < k + 1 by omega]

theorem Fill.own {w : World} {g n : Nat} {bs : List UInt8} (h : Fill w g n n bs) (hn : n = bs.length) (hm : n ≤ maxLen) (base : Nat) (hb : base ≤ g) : Own w 5 base (.slice (some ⟨g, 0, none⟩) n n) bs := by
  obtain ⟨cur, h1, h2, h3⟩ := h
  subst hn
  refine ⟨by simp, .inr ⟨g, bs.length, cur, rfl, hb, h1, Nat.le_refl _, hm, by simp [h2], ?_⟩⟩
  rw [List.take_length] at h3
  simpa using h3

set_option maxHeartbeats 400000 in
theorem copied_any (base : Nat) (v : Value) (bs : List UInt8) (w : World) (hs : Sl base w v bs) (hl : bs.length ≤ 140737488351232) :
    Calls Tryd.prog 35 #[v] w fun e w' => ∃ v', e = .returned v' ∧ Own w' 5 w.heap.size v' bs ∧ Up w w' := by
  obtain ⟨i0, hi, hz0, hz1, hz2⟩ := info_parts Tryd.infoU8
  have hs0 := hs
  obtain ⟨ao, cap, rfl, hc, hn, hx⟩ := hs
  obtain ⟨n, hnn⟩ : ∃ n, n = bs.length := ⟨_, rfl⟩
  have Hn : Hid (n = bs.length) := hnn
  rw [← hnn] at hs0 hc hl ⊢
  have hmk : ∀ u : World, (Instr.makeSlice 25 (.int .i64 (n : Int)) (.int .i64 (n : Int))).run Tryd.prog u =
      .ok (.slice (some ⟨u.heap.size, 0, none⟩) n n) (u.alloc (.cells (madeCells #[.int .u8 0] n) 5)) := fun u => by
    have h := run_make (P := Tryd.prog) u 25 5 i0 (.int .u8 0) Tryd.underlying25 hi hz0 .i64 .i64 (n : Int) (n : Int) (by omega) (by omega) (by rw [hz2]; omega) (by omega)
    simpa [hz1, Value.cells] using h
  have hfill : Fill (w.alloc (.cells (madeCells #[.int .u8 0] n) 5)) w.heap.size n 0 bs := ⟨_, heap_alloc_new _ _, by simp [size_madeCells], by simp⟩
  have hup := Up.alloc w (.cells (madeCells #[.int .u8 0] n) 5)
  clear hnn hi hz0 hz1 hz2 hn
  go_enter Tryd.func35, Tryd.ntmps35
  go_wp2_with fail
  go_loopw [4] (fun i wr => ∃ k : Nat, k ≤ n ∧ i = .int .i64 k ∧ Fill wr w.heap.size n k bs ∧ Up w wr) (fun i _ => n - (intOf i).toNat)
  case atStart => exact ⟨0, Nat.zero_le _, rfl, hfill, hup⟩
  case round =>
    obtain ⟨k, hk, rfl, hf, hu⟩ := hrel
    by_cases hlt : k < n
    · have hkb : k < bs.length := by rw [← Hn.out]; exact hlt
      obtain ⟨b, o, rfl, _, ha⟩ := hx (by intro e; rw [e] at hkb; simp at hkb)
      have hc1 := (ha.up hu) k hkb
      obtain ⟨⟨v, hc2⟩, hf2⟩ := hf.cell hlt
      have hnx := hf.next hlt Hn.out
      clear hx ha hfill hup hf
      go_wp2
      go_roundw
      case rel => exact ⟨k + 1, by omega, by go_num, hnx, hu.setCell (Nat.le_refl _) _⟩
      case measure => simp [intOf]; omega
    · obtain rfl : k = n := by omega
      have ho := hf.own Hn.out (by unfold maxLen; omega) w.heap.size (Nat.le_refl _)
      go_wp2
      go_ret
      exact ⟨_, rfl, ho, hu⟩

set_option maxHeartbeats 400000 in
theorem rput_any (base : Nat) (v : Value) (bs : List UInt8) (x n : Nat) (w : World) (hs : Sl base w v bs) (hl : bs.length ≤ 140737488351232) (hn : n ≤ 8) (hx : Hid (x < 2 ^ 64)) :
    Calls Tryd.prog 67 #[v, .int .u64 x, .int .i64 n] w fun e w' => ∃ v', e = .returned v' ∧ Own w' 5 w.heap.size v' (bs ++ le n x) ∧ Up w w' := by
  go_enter Tryd.func67, Tryd.ntmps67
  go_wp2_with fail
  refine (copied_any base v bs _ hs hl).mono ?_
  rintro e w1 ⟨v1, rfl, ho1, hu1⟩
  go_wp2_with fail
  go_loopw [1, 7, 8] (fun y s i wr => ∃ k Y : Nat, k ≤ n ∧ i = .int .i64 k ∧ y = .int .u64 (Y : Int) ∧ Hid (Y = x / 256 ^ k) ∧ Own wr 5 w.heap.size s (bs ++ le k x) ∧ Up w wr) (fun _ _ i _ => n - (intOf i).toNat)
  case atStart => exact ⟨0, x, Nat.zero_le _, rfl, rfl, by simp [Hid], by simpa [le] using ho1, hu1⟩
  case round =>
    obtain ⟨k, Y, hk, rfl, rfl, hY, ho, hup⟩ := hrel
    by_cases hlt : k < n
    · have hnY : Hid (Y / 256 = x / 256 ^ (k + 1)) := by show Y / 256 = _; rw [hY.out, Nat.pow_succ, Nat.div_div_eq_div_mul]
      have hc : Hid (((Y : Int) % 256) = ((UInt8.ofNat (x / 256 ^ k)).toNat : Int)) := by
        show ((Y : Int) % 256) = _
        rw [UInt8.toNat_ofNat', ← hY.out]; omega
      have hY64 : Hid (Y < 18446744073709551616) := by show Y < _; rw [hY.out]; exact Nat.lt_of_le_of_lt (Nat.div_le_self _ _) hx.out
      go_wp2_with (at_builtin; refine wpList_push _ rfl (.tmp 16) (.tmp 20) rfl w.heap.size _ _ rfl _ rfl ho ?hb ?hl (UInt8.ofNat (x / 256 ^ k)) ?hc ?_)
      case hb => have := hup.size; omega
      case hl => have := le_length k x; simp; omega
      case hc => first | exact hc.out | (rw [← hc.out]; simp; omega)
      intro v' w' ho' hb'
      go_wp2
      go_roundw
      case rel =>
        rw [← le_snoc] at ho'
        exact ⟨k + 1, Y / 256, by omega, by go_num, by first | rfl | (rw [IntKind.wrap_u64]; congr 1; have := hY64.out; omega), hnY, ho', Below.trans hup hb'⟩
      case measure => simp [intOf]; omega
    · obtain rfl : k = n := by omega
      go_wp2
      go_ret
      exact ⟨_, rfl, ho, hup⟩

theorem rPutU64_any (base : Nat) (v : Value) (bs : List UInt8) (x : Nat) (w : World) (hs : Sl base w v bs) (hl : bs.length ≤ 140737488351232) (hx : Hid (x < 2 ^ 64)) :
    Calls Tryd.prog 57 #[v, .int .u64 x] w fun e w' => ∃ v', e = .returned v' ∧ Own w' 5 w.heap.size v' (bs ++ le 8 x) ∧ Up w w' := by
  go_enter Tryd.func57, Tryd.ntmps57
  go_wp2_with fail
  refine (rput_any base v bs x 8 _ hs hl (by omega) hx).mono ?_
  rintro e w1 ⟨v1, rfl, ho, hu⟩
  go_wp2
  go_ret
  exact ⟨_, rfl, ho, hu⟩
theorem rPutU32_any (base : Nat) (v : Value) (bs : List UInt8) (x : Nat) (w : World) (hs : Sl base w v bs) (hl : bs.length ≤ 140737488351232) (hx : x < 2 ^ 32) :
    Calls Tryd.prog 56 #[v, .int .u32 x] w fun e w' => ∃ v', e = .returned v' ∧ Own w' 5 w.heap.size v' (bs ++ le 4 x) ∧ Up w w' := by
  have hx2 : Hid (x < 2 ^ 64) := by show x < 2 ^ 64; omega
  go_enter Tryd.func56, Tryd.ntmps56
  go_wp2_with fail
  refine (rput_any base v bs x 4 _ hs hl (by omega) hx2).mono ?_
  rintro e w1 ⟨v1, rfl, ho, hu⟩
  go_wp2
  go_ret
  exact ⟨_, rfl, ho, hu⟩
theorem rPutU16_any (base : Nat) (v : Value) (bs : List UInt8) (x : Nat) (w : World) (hs : Sl base w v bs) (hl : bs.length ≤ 140737488351232) (hx : x < 2 ^ 16) :
    Calls Tryd.prog 55 #[v, .int .u16 x] w fun e w' => ∃ v', e = .returned v' ∧ Own w' 5 w.heap.size v' (bs ++ le 2 x) ∧ Up w w' := by
  have hx2 : Hid (x < 2 ^ 64) := by show x < 2 ^ 64; omega
  go_enter Tryd.func55, Tryd.ntmps55
  go_wp2_with fail
  refine (rput_any base v bs x 2 _ hs hl (by omega) hx2).mono ?_
  rintro e w1 ⟨v1, rfl, ho, hu⟩
  go_wp2
  go_ret
  exact ⟨_, rfl, ho, hu⟩

set_option maxHeartbeats 400000 in
theorem rPutNumber_any (base : Nat) (v : Value) (bs : List UInt8) (x : Nat) (w : World) (hs : Sl base w v bs) (hl : bs.length ≤ 140737488351232) (hx : Hid (x < 2 ^ 64)) :
    Calls Tryd.prog 59 #[v, .int .u64 x] w fun e w' => ∃ v', e = .returned v' ∧ Own w' 5 w.heap.size v' (bs ++ vn x) ∧ Up w w' := by
  have hst := NumInv.start x hx.out
  go_enter Tryd.func59, Tryd.ntmps59
  go_wp2_with fail
  refine (copied_any base v bs _ hs hl).mono ?_
  rintro e w1 ⟨v1, rfl, ho, hu⟩
  go_wp2_with fail
  go_loopw [1, 5] (fun y s wr => ∃ (f y' : Nat) (done : List UInt8), y = .int .u64 y' ∧ NumInv x f y' done ∧ Hid (y' < 2 ^ 64) ∧ Own wr 5 w.heap.size s (bs ++ done) ∧ Up w wr) (fun y _ _ => (intOf y).toNat)
  case atStart => exact ⟨9, x, [], rfl, hst, hx, by simpa using ho, hu⟩
  case round =>
    obtain ⟨f, y, done, rfl, hinv, h64, hown, hup⟩ := hrel
    by_cases hlt : (128 : Int) ≤ (y : Int)
    · go_wp2_with (at_builtin; refine wpList_push _ rfl (.tmp 10) (.tmp 15) rfl w.heap.size _ _ rfl _ rfl hown ?hb ?hl (UInt8.ofNat (y % 128 + 128)) ?hc ?_)
      case hb => have := hup.size; omega
      case hl => have := hinv.len; simp; omega
      case hc => rw [UInt8.toNat_ofNat']; omega
      intro v' w' ho' hb'
      have hnx := hinv.next (by omega)
      have h64' : Hid (y / 128 < 2 ^ 64) := by show y / 128 < _; have := h64.out; omega
      clear hinv hown
      go_wp2
      go_roundw
      case rel =>
        exact ⟨f - 1, y / 128, done ++ [UInt8.ofNat (y % 128 + 128)], by first | (simp; done) | (rw [IntKind.wrap_u64]; congr 1; have := h64.out; omega), hnx, h64', by simpa using ho', Below.trans hup hb'⟩
      case measure => simp [intOf]; first | omega | (rw [IntKind.wrap_u64]; have := h64.out; omega)
    · have Hfin : Hid (vn x = done ++ [UInt8.ofNat y]) := hinv.done (by omega)
      go_wp2_with (at_builtin; refine wpList_push _ rfl (.tmp 19) (.tmp 22) rfl w.heap.size _ _ rfl _ rfl hown ?hb2 ?hl2 (UInt8.ofNat y) ?hc2 ?_)
      case hb2 => have := hup.size; omega
      case hl2 => have := hinv.len; simp; omega
      case hc2 => first | omega | (rw [UInt8.toNat_ofNat']; omega)
      intro v' w' ho' hb'
      go_wp2
      go_ret
      rw [← Hfin.out] at ho'
      exact ⟨_, rfl, ho', Below.trans hup hb'⟩
end Go.Proofs.YtpjpjoefmnnpmaaDoor

/- table: the reference's place, has, Len, Get, New. Own work. -/
import Derived.Test.YtldmiieepikjnaaTbRow
set_option linter.unusedVariables false
set_option linter.unusedSimpArgs false
namespace Go.Proofs.Ytldmiieepikjnaa
open Go Go.RowKit

abbrev KeyOk (k : ByteArray) : Prop := k.size ≤ 281474976710656
/-- The block b is the reference's table: at most lim keys, the row xs in the slice v. -/
def RTab (w : World) (b : Nat) (v : Value) (lim : Int) (xs : List (KV Int)) : Prop :=
  w.heap[b]? = some (.cells #[v, .int .i64 lim] 82 (0, 0)) ∧ OwnIt w 0 v xs ∧ Srt xs ∧ ∀ x ∈ xs, KeyOk x.1
theorem RTab.lt {w : World} {b : Nat} {v : Value} {lim : Int} {xs : List (KV Int)} (h : RTab w b v lim xs) : b < w.heap.size := (Array.getElem?_eq_some_iff.1 h.1).1
theorem RTab.up {w w' : World} {b : Nat} {v : Value} {lim : Int} {xs : List (KV Int)} (h : RTab w b v lim xs) (u : Up w w') : RTab w' b v lim xs :=
  ⟨(u.block b h.lt).trans h.1, Touch.row h.2.1 (Touch.of_up u []) (fun k _ => by simp), h.2.2⟩
theorem RTab.kept {w w' : World} {b : Nat} {v : Value} {lim : Int} {xs : List (KV Int)} {S : List Nat} (h : RTab w b v lim xs) (t : Touch w w' S) (hb : b ∉ S) (hv : ∀ k ∈ ob v, k ∉ S) : RTab w' b v lim xs :=
  ⟨(t.block b h.lt hb).trans h.1, Touch.row h.2.1 t (fun k hk => hv k (mem_ob.2 hk)), h.2.2⟩
theorem RTab.cells {w : World} {b : Nat} {v : Value} {lim : Int} {xs : List (KV Int)} (h : RTab w b v lim xs) : w.cell? ⟨b, 0, none⟩ = some v ∧ w.cell? ⟨b, 1, none⟩ = some (.int .i64 lim) ∧ w.frozen? ⟨b, 0, none⟩ = false := by
  refine ⟨?_, ?_, ?_⟩
  · rw [cell_of_row _ _ _ _ _ _ h.1]; rfl
  · rw [cell_of_row _ _ _ _ _ _ h.1]; rfl
  · simp [World.frozen?, h.1]
theorem RTab.ne {w : World} {b : Nat} {v : Value} {lim : Int} {xs : List (KV Int)} (h : RTab w b v lim xs) : b ∉ ob v := by
  intro hm
  obtain ⟨h1, ⟨_, h2⟩, _⟩ := h
  rcases h2 with ⟨rfl, _⟩ | ⟨g, cap, cur, rfl, _, hg, _⟩
  · simp [ob, Value.ownBlock] at hm
  · simp [ob, Value.ownBlock] at hm
    subst hm
    rw [h1] at hg
    simp at hg

theorem rNew_any (lim : Int) (w : World) : Calls Try.prog 10 #[.int .i64 lim] w fun e w' => e = .returned (.pointer (some ⟨w.heap.size, 0, none⟩)) ∧ RTab w' w.heap.size (.slice none 0 0) lim [] ∧ Up w w' := by
  have fin : RTab (w.alloc (.cells #[.slice none 0 0, .int .i64 lim] 82)) w.heap.size (.slice none 0 0) lim [] := ⟨heap_alloc_new _ _, World.ownsRow_nil _ _ _ _, List.Pairwise.nil, by simp⟩
  go_enter Try.func10, Try.ntmps10
  go_wp2
  go_ret
  exact ⟨rfl, fin, Up.alloc _ _⟩
theorem rLen_nil (w : World) : Calls Try.prog 19 #[.pointer none] w fun e w' => e = .returned (.int .i64 0) ∧ w' = w := by
  go_enter Try.func19, Try.ntmps19
  go_wp2
  go_ret
  exact ⟨rfl, rfl⟩
theorem rLen_any (b : Nat) (v : Value) (lim : Int) (xs : List (KV Int)) (w : World) (h : RTab w b v lim xs) : Calls Try.prog 19 #[.pointer (some ⟨b, 0, none⟩)] w fun e w' => e = .returned (.int .i64 (xs.length : Int)) ∧ w' = w := by
  obtain ⟨c0, _, _⟩ := h.cells
  obtain ⟨ao, cap, rfl⟩ := h.2.1.sl.slice
  clear h
  go_enter Try.func19, Try.ntmps19
  go_wp2
  go_ret
  exact ⟨rfl, rfl⟩

set_option maxHeartbeats 1000000 in
theorem place_any (k : ByteArray) (b : Nat) (v : Value) (lim : Int) (xs : List (KV Int)) (w : World) (h : RTab w b v lim xs) (hk : KeyOk k) (hn : xs.length ≤ 1152921504606846975) :
    Calls Try.prog 47 #[.pointer (some ⟨b, 0, none⟩), .string k] w fun e w' => e = .returned (.int .i64 (pl k xs : Int)) ∧ Up w w' := by
  obtain ⟨c0, _, _⟩ := h.cells
  obtain ⟨ao, cap, rfl, hcap, hx⟩ := h.2.1.sl
  obtain ⟨P, hP⟩ : ∃ P, pl k xs = P := ⟨_, rfl⟩
  have hPn : P ≤ xs.length := by rw [← hP]; exact pl_le k xs
  have HK : Hid (∀ m (hm : m < xs.length) {w' : World}, Up w w' → ∃ g o, ao = some ⟨g, o, none⟩ ∧ w'.cell? ⟨g, o + m * 2, none⟩ = some (.string xs[m].1) ∧
      Calls Try.prog 66 #[.string xs[m].1, .string k] w' fun e w'' => e = .returned (.bool (decide (m < P))) ∧ Up w' w'') := fun m hm {w'} u => by
    obtain ⟨g, o, rfl, hcell⟩ := hx (by rintro rfl; simp at hm)
    have := Less_any xs[m].1 k w' (h.2.2.2 _ (List.getElem_mem hm)) hk
    rw [at_pl h.2.2.1 k m hm, hP] at this
    exact ⟨g, o, rfl, (u.cell (World.block_lt_of_cell? w _ (hcell m hm).1)).trans (hcell m hm).1, this⟩
  have HC : Hid (∀ {w' : World}, Up w w' → w'.cell? ⟨b, 0, none⟩ = some (.slice ao xs.length cap)) := fun u => (u.cell (World.block_lt_of_cell? w _ c0)).trans c0
  rw [hP]
  clear hx h hP
  obtain ⟨N, hN⟩ : ∃ N, xs.length = N := ⟨_, rfl⟩
  have HN : Hid (xs.length = N) := hN
  rw [hN] at c0 hn hPn hcap
  simp only [hN] at HC
  clear hN
  go_enter Try.func47, Try.ntmps47
  go_wp2
  clear c0
  go_loopg [5, 6] N (fun g s5 s6 wr => Up w wr ∧ ∃ l h : Nat, s5 = .int .i64 (l : Int) ∧ s6 = .int .i64 (h : Int) ∧ Hid (g = h - l ∧ l ≤ P ∧ P ≤ h ∧ h ≤ N))
  case atStart => exact ⟨Up.refl w, 0, N, rfl, rfl, by omega, by omega, hPn, Nat.le_refl _⟩
  case round =>
    obtain ⟨hu, l, h, rfl, rfl, hH⟩ := hrel
    by_cases hlt : (l : Int) < (h : Int)
    · obtain ⟨hg, hl, hh, hhn⟩ := hH.out
      obtain ⟨m, hm⟩ : ∃ m, (l + h) / 2 = m := ⟨_, rfl⟩
      have hw2 : ((l : Int) + (h : Int)) / 2 = (m : Int) := by omega
      have hw3 : IntKind.i64.wrap ((m : Int) + 1) = ((m + 1 : Nat) : Int) := by rw [IntKind.wrap_i64]; omega
      have hmN : m < xs.length := by rw [HN.out]; omega
      obtain ⟨g, o, rfl, hc, hL⟩ := HK.out m hmN hu
      have hb := HC.out hu
      have hmi : (m : Int) < (N : Int) := by omega
      have hm62 : (m : Int) ≤ 1152921504606846975 := by omega
      have hsum : (l : Int) + (h : Int) ≤ 2305843009213693952 := by omega
      have HM : Hid (l ≤ m ∧ m < h ∧ gk = h - l ∧ l ≤ P ∧ P ≤ h ∧ h ≤ N) := ⟨by omega, by omega, hg, hl, hh, hhn⟩
      clear hg hl hh hhn hm hH
      by_cases hmp : m < P
      · rw [decide_eq_true hmp] at hL
        have HP : Hid (m < P) := hmp
        clear hmp
        go_wp2_with (go_at_call 66; refine hL.mono ?_; clear hL; rintro e w1 ⟨rfl, u1⟩)
        go_roundg (h - (m + 1))
        case measure => have := HM.out; omega
        case rel => exact ⟨hu.trans u1, m + 1, h, by simp, rfl, rfl, by have := HP.out; omega, by have := HM.out; omega, by have := HM.out; omega⟩
      · rw [decide_eq_false hmp] at hL
        have HP : Hid (¬ m < P) := hmp
        clear hmp
        go_wp2_with (go_at_call 66; refine hL.mono ?_; clear hL; rintro e w1 ⟨rfl, u1⟩)
        go_roundg (m - l)
        case measure => have := HM.out; omega
        case rel => exact ⟨hu.trans u1, l, m, rfl, rfl, rfl, by have := HM.out; omega, by have := HP.out; omega, by have := HM.out; omega⟩
    · have hlp : l = P := by obtain ⟨_, h1, h2, _⟩ := hH.out; omega
      subst hlp
      clear hH
      go_wp2
      go_ret
      exact ⟨rfl, hu⟩

set_option maxHeartbeats 1000000 in
/-- has at the place of the key. -/
theorem has_any (k : ByteArray) (b : Nat) (v : Value) (lim : Int) (xs : List (KV Int)) (w : World) (h : RTab w b v lim xs) (hn : xs.length ≤ 1152921504606846975) :
    Calls Try.prog 48 #[.pointer (some ⟨b, 0, none⟩), .int .i64 (pl k xs : Int), .string k] w fun e w' => e = .returned (.bool (getL k xs).isSome) ∧ w' = w := by
  obtain ⟨c0, _, _⟩ := h.cells
  by_cases hlt : pl k xs < xs.length
  · obtain ⟨ao, cap, rfl, hcap, hx⟩ := h.2.1.sl
    obtain ⟨g, o, rfl, hcell⟩ := hx (by rintro rfl; simp at hlt)
    have hc := (hcell _ hlt).1
    rw [(here_pl h.2.2.1 k hlt).1]
    have hbe : (xs[pl k xs].1.toList == k.toList) = decide (xs[pl k xs].1 = k) := by
      by_cases e : xs[pl k xs].1 = k
      · rw [e]; simp
      · rw [beq_ne e, decide_eq_false e]
    generalize xs[pl k xs].1 = kk at hc hbe ⊢
    generalize decide (kk = k) = r at hbe ⊢
    obtain ⟨P, hP⟩ : ∃ P, pl k xs = P := ⟨_, rfl⟩
    obtain ⟨N, hN⟩ : ∃ N, xs.length = N := ⟨_, rfl⟩
    rw [hP] at hc hlt ⊢
    rw [hN] at c0 hn hcap hlt
    have hPi : (P : Int) < (N : Int) := by omega
    have hNb : (N : Int) ≤ 1152921504606846975 := by omega
    clear h hx hcell hP hN hlt hn
    go_enter Try.func48, Try.ntmps48
    go_wp2
    go_ret
    exact ⟨rfl, rfl⟩
  · obtain ⟨ao, cap, rfl⟩ := h.2.1.sl.slice
    rw [none_pl h.2.2.1 k hlt]
    change Calls _ _ _ _ fun e w' => e = .returned (.bool false) ∧ w' = w
    obtain ⟨P, hP⟩ : ∃ P, pl k xs = P := ⟨_, rfl⟩
    obtain ⟨N, hN⟩ : ∃ N, xs.length = N := ⟨_, rfl⟩
    rw [hP] at hlt ⊢
    rw [hN] at c0 hn hlt
    have hPi : ¬ (P : Int) < (N : Int) := by omega
    clear h hP hN hlt hn
    go_enter Try.func48, Try.ntmps48
    go_wp2
    go_ret
    exact ⟨rfl, rfl⟩

theorem rGet_nil (k : ByteArray) (w : World) : Calls Try.prog 15 #[.pointer none, .string k] w fun e w' => e = .returned (.tuple #[.int .i64 0, .bool false]) ∧ w' = w := by
  go_enter Try.func15, Try.ntmps15
  go_wp2
  go_ret2
  exact ⟨rfl, rfl⟩
set_option maxHeartbeats 1000000 in
theorem rGet_any (k : ByteArray) (b : Nat) (v : Value) (lim : Int) (xs : List (KV Int)) (w : World) (h : RTab w b v lim xs) (hk : KeyOk k) (hn : xs.length ≤ 1152921504606846975) :
    Calls Try.prog 15 #[.pointer (some ⟨b, 0, none⟩), .string k] w fun e w' => e = .returned (match getL k xs with | some v => .tuple #[.int .i64 v, .bool true] | none => .tuple #[.int .i64 0, .bool false]) ∧ Up w w' := by
  have qp := place_any k b v lim xs w h hk hn
  have qh : ∀ {w' : World}, Up w w' → Calls Try.prog 48 #[.pointer (some ⟨b, 0, none⟩), .int .i64 (pl k xs : Int), .string k] w' fun e w'' => e = .returned (.bool (getL k xs).isSome) ∧ w'' = w' := fun u => has_any k b v lim xs _ (h.up u) hn
  cases hg : getL k xs with
  | none =>
    rw [hg] at qh
    clear h
    go_enter Try.func15, Try.ntmps15
    go_wp2_with (first
      | (go_at_call 47; refine qp.mono ?_; clear qp; rintro e w1 ⟨rfl, u1⟩)
      | (go_at_call 48; refine (qh u1).mono ?_; clear qh; rintro e w2 ⟨rfl, rfl⟩))
    go_ret2
    exact ⟨rfl, u1⟩
  | some u =>
    rw [hg] at qh
    have hlt : pl k xs < xs.length := Classical.byContradiction fun c => by rw [none_pl h.2.2.1 k c] at hg; cases hg
    have hu : xs[pl k xs].2 = u := by
      obtain ⟨h1, h2⟩ := here_pl h.2.2.1 k hlt
      rw [hg] at h1
      have := h2 (by simpa using h1.symm)
      rw [hg] at this
      exact (Option.some.inj this).symm
    obtain ⟨c0, _, _⟩ := h.cells
    obtain ⟨ao, cap, rfl, hcap, hx⟩ := h.2.1.sl
    obtain ⟨g, o, rfl, hcell⟩ := hx (by rintro rfl; simp at hlt)
    have hc := (hcell _ hlt).2
    rw [hu] at hc
    have sof : ∀ {w' : World}, Up w w' → w'.cell? ⟨b, 0, none⟩ = some (.slice (some ⟨g, o, none⟩) xs.length cap) ∧ w'.cell? ⟨g, o + pl k xs * 2 + 1, none⟩ = some (.int .i64 u) := fun uu =>
      ⟨(uu.cell (World.block_lt_of_cell? w _ c0)).trans c0, (uu.cell (World.block_lt_of_cell? w _ hc)).trans hc⟩
    obtain ⟨P, hP⟩ : ∃ P, pl k xs = P := ⟨_, rfl⟩
    obtain ⟨N, hN⟩ : ∃ N, xs.length = N := ⟨_, rfl⟩
    rw [hP] at hc hlt qp
    rw [hN] at hn hcap hlt
    simp only [hP] at qh
    simp only [hN, hP] at sof
    have hPi : (P : Int) < (N : Int) := by omega
    have hNb : (N : Int) ≤ 1152921504606846975 := by omega
    clear h hx hcell hP hN hlt hn hu c0 hc
    go_enter Try.func15, Try.ntmps15
    go_wp2_with (first
      | (go_at_call 47; refine qp.mono ?_; clear qp; rintro e w1 ⟨rfl, u1⟩; obtain ⟨z1, z2⟩ := sof u1)
      | (go_at_call 48; refine (qh u1).mono ?_; clear qh; rintro e w2 ⟨rfl, hw⟩; obtain rfl : w1 = w2 := hw.symm))
    go_ret2
    exact ⟨rfl, u1⟩
end Go.Proofs.Ytldmiieepikjnaa

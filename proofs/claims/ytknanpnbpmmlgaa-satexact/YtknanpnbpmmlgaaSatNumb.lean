/- sat: the reference's number and low. -/
import Derived.Test.YtknanpnbpmmlgaaSatOf
set_option linter.unusedVariables false
namespace Go.Proofs.Ytknanpnbpmmlgaa
open Go Go.RowKit

theorem wd_eq' (n h l : Nat) (h1 : hiN n = h) (h2 : loN n = l) : Wd n = .agg #[V h, V l] := by simp only [Wd, h1, h2]

/-- A number of digits, or the greatest one. -/
def capN (n : Nat) : Nat := if n < 340282366920938463463374607431768211456 then n else 340282366920938463463374607431768211455

/-- The two boxes of the reference's number: what it answers, and the halves so far. -/
structure Nb (w wr : World) (g2 g4 a b : Nat) : Prop where
  up : Up w wr
  r : wr.heap[g2]? = some (.cells #[.int .u64 0, .int .u64 0] 45 (0, 0))
  c : wr.heap[g4]? = some (.cells #[V a, V b] 45 (0, 0))
  ne : g2 ≠ g4
  b2 : w.heap.size ≤ g2
  b4 : w.heap.size ≤ g4

theorem Nb.cells {w wr : World} {g2 g4 a b : Nat} (h : Nb w wr g2 g4 a b) : wr.cell? ⟨g4, 0, none⟩ = some (V a) ∧ wr.cell? ⟨g4, 1, none⟩ = some (V b) ∧ wr.frozen? ⟨g4, 0, none⟩ = false ∧ wr.frozen? ⟨g4, 1, none⟩ = false ∧
    wr.cell? ⟨g2, 0, none⟩ = some (.int .u64 0) ∧ wr.cell? ⟨g2, 1, none⟩ = some (.int .u64 0) ∧ wr.frozen? ⟨g2, 0, none⟩ = false ∧ wr.frozen? ⟨g2, 1, none⟩ = false := by
  refine ⟨?_, ?_, by simp [World.frozen?, h.c], by simp [World.frozen?, h.c], ?_, ?_, by simp [World.frozen?, h.r], by simp [World.frozen?, h.r]⟩
  · rw [cell_of_row _ _ _ _ _ _ h.c]; rfl
  · rw [cell_of_row _ _ _ _ _ _ h.c]; rfl
  · rw [cell_of_row _ _ _ _ _ _ h.r]; rfl
  · rw [cell_of_row _ _ _ _ _ _ h.r]; rfl

theorem Nb.set0 {w wr : World} {g2 g4 a b : Nat} (h : Nb w wr g2 g4 a b) (x : Nat) : Nb w (wr.setCell ⟨g4, 0, none⟩ (V x)) g2 g4 x b := by
  have e : wr.setCell ⟨g4, 0, none⟩ (V x) = _ := setCell_eq_setRow wr g4 0 _ _ _ _ h.c
  refine ⟨h.up.setCell h.b4 _, ?_, ?_, h.ne, h.b2, h.b4⟩
  · rw [e, setRow_other _ _ _ _ h.ne]; exact h.r
  · rw [e]; exact setRow_heap wr g4 _ _ _ _ h.c
theorem Nb.set1 {w wr : World} {g2 g4 a b : Nat} (h : Nb w wr g2 g4 a b) (x : Nat) : Nb w (wr.setCell ⟨g4, 1, none⟩ (V x)) g2 g4 a x := by
  have e : wr.setCell ⟨g4, 1, none⟩ (V x) = _ := setCell_eq_setRow wr g4 1 _ _ _ _ h.c
  refine ⟨h.up.setCell h.b4 _, ?_, ?_, h.ne, h.b2, h.b4⟩
  · rw [e, setRow_other _ _ _ _ h.ne]; exact h.r
  · rw [e]; exact setRow_heap wr g4 _ _ _ _ h.c

/-- What the halves are when the digits from k on have been taken. -/
def NbS (ds : List Nat) (k a b : Nat) : Prop := (4 ≤ k → a = valD ((ds.take 8).drop k) ∧ b = 0) ∧ (k ≤ 4 → a = valD ((ds.take 8).drop 4) ∧ b = valD ((ds.take 4).drop k))

theorem digs_sub {ds ds' : List Nat} (h : Digs ds) (hs : ∀ d ∈ ds', d ∈ ds) : Digs ds' := fun d hd => h d (hs d hd)
theorem digs_take {ds : List Nat} (h : Digs ds) (k : Nat) : Digs (ds.take k) := digs_sub h fun d hd => List.mem_of_mem_take hd
theorem digs_drop {ds : List Nat} (h : Digs ds) (k : Nat) : Digs (ds.drop k) := digs_sub h fun d hd => List.mem_of_mem_drop hd

theorem NbS.start (ds : List Nat) (h8 : 8 ≤ ds.length) : NbS ds 8 0 0 := by
  refine ⟨fun _ => ?_, fun h => by omega⟩
  rw [List.drop_of_length_le (by simp; omega)]; exact ⟨rfl, rfl⟩

theorem pow_le4 (k : Nat) (h : k ≤ 4) : 65536 ^ k ≤ 18446744073709551616 := by
  have : (65536 : Nat) ^ k ≤ 65536 ^ 4 := Nat.pow_le_pow_right (by decide) h
  simpa using this

theorem NbS.high {ds : List Nat} {k a b : Nat} (h : NbS ds (k + 1) a b) (hd : Digs ds) (h8 : 8 ≤ ds.length) (hk : 4 ≤ k) (hk8 : k < 8) : NbS ds k (a * 65536 + ds[k]) b ∧ a * 65536 + ds[k] < 18446744073709551616 := by
  obtain ⟨ha, hb⟩ := h.1 (by omega)
  have e := val_drop (ds.take 8) k (by simp; omega)
  rw [List.getElem_take] at e
  have hv : a * 65536 + ds[k] = valD ((ds.take 8).drop k) := by rw [e, ha]; omega
  have hl := val_lt _ (digs_drop (digs_take hd 8) k)
  have hp := pow_le4 ((ds.take 8).drop k).length (by simp; omega)
  refine ⟨⟨fun _ => ⟨hv, hb⟩, fun h4 => ?_⟩, by omega⟩
  obtain rfl : k = 4 := by omega
  refine ⟨hv, ?_⟩
  rw [hb, List.drop_of_length_le (by simp; omega)]; rfl
theorem NbS.low {ds : List Nat} {k a b : Nat} (h : NbS ds (k + 1) a b) (hd : Digs ds) (h8 : 8 ≤ ds.length) (hk : k < 4) : NbS ds k a (b * 65536 + ds[k]) ∧ b * 65536 + ds[k] < 18446744073709551616 := by
  obtain ⟨ha, hb⟩ := h.2 (by omega)
  have e := val_drop (ds.take 4) k (by simp; omega)
  rw [List.getElem_take] at e
  have hv : b * 65536 + ds[k] = valD ((ds.take 4).drop k) := by rw [e, hb]; omega
  have hl := val_lt _ (digs_drop (digs_take hd 4) k)
  have hp := pow_le4 ((ds.take 4).drop k).length (by simp; omega)
  exact ⟨⟨fun h4 => by omega, fun _ => ⟨ha, hv⟩⟩, by omega⟩

theorem NbS.done {ds : List Nat} {a b : Nat} (h : NbS ds 0 a b) (hd : Digs ds) (h8 : 8 ≤ ds.length) (hz : ∀ m (hm : m < ds.length), 8 ≤ m → ds[m] = 0) : Wd (capN (valD ds)) = .agg #[V a, V b] := by
  obtain ⟨ha, hb⟩ := h.2 (by omega)
  rw [List.drop_zero] at hb
  have e1 : valD ds = valD (ds.take 8) := by
    conv => lhs; rw [← List.take_append_drop 8 ds]
    rw [val_append, val_zeros (ds.drop 8) (fun k hk => by rw [List.getElem_drop]; exact hz _ _ (by omega))]
    omega
  have e2 : valD (ds.take 8) = valD (ds.take 4) + 65536 ^ 4 * valD ((ds.take 8).drop 4) := by
    conv => lhs; rw [← List.take_append_drop 4 (ds.take 8)]
    rw [val_append, List.take_take, List.length_take, Nat.min_eq_left (show 4 ≤ 8 by omega), Nat.min_eq_left (show 4 ≤ ds.length by omega)]
  have hl := val_lt _ (digs_take hd 4)
  have hh := val_lt _ (digs_drop (digs_take hd 8) 4)
  rw [List.length_take, Nat.min_eq_left (by omega)] at hl
  rw [List.length_drop, List.length_take, Nat.min_eq_left (by omega)] at hh
  rw [← ha] at e2 hh
  rw [← hb] at e2 hl
  have p4 : (65536 : Nat) ^ 4 = 18446744073709551616 := by decide
  have p4' : (65536 : Nat) ^ (8 - 4) = 18446744073709551616 := by decide
  rw [p4] at e2 hl
  rw [p4'] at hh
  have ev : valD ds = a * 18446744073709551616 + b := by omega
  have hc : capN (valD ds) = a * 18446744073709551616 + b := by unfold capN; rw [ev, if_pos (by omega)]
  rw [hc]
  exact wd_eq' _ _ _ (hi_of _ _ hl) (lo_of _ _ hl)

theorem cap_top {ds : List Nat} (k : Nat) (hk : k < ds.length) (h8 : 8 ≤ k) (h0 : ds[k] ≠ 0) : Wd (capN (valD ds)) = .agg #[.int .u64 18446744073709551615, .int .u64 18446744073709551615] := by
  have h1 := val_pos ds k hk h0
  have h2 : (65536 : Nat) ^ 8 ≤ 65536 ^ k := Nat.pow_le_pow_right (by decide) h8
  have p8 : (65536 : Nat) ^ 8 = 340282366920938463463374607431768211456 := by decide
  rw [p8] at h2
  have hc : capN (valD ds) = 340282366920938463463374607431768211455 := by unfold capN; rw [if_neg (by omega)]
  rw [hc]; rfl

set_option maxHeartbeats 1600000 in
theorem number_any (v : Value) (ds : List Nat) (w : World) (h : SlD w v ds) (h8 : 8 ≤ ds.length) (h17 : ds.length ≤ 17) (hd : Digs ds) :
    Calls Try.prog 36 #[v] w fun e w' => e = .returned (Wd (capN (valD ds))) ∧ Up w w' := by
  obtain ⟨b, o, cap, rfl, hx⟩ := h
  have Hx : Hid (∀ (i : Nat) (h : i < ds.length), w.cell? ⟨b, o + i, none⟩ = some (V ds[i])) := hx
  have HL : Hid (8 ≤ ds.length ∧ ds.length ≤ 17 ∧ Digs ds) := ⟨h8, h17, hd⟩
  obtain ⟨R, hR⟩ : ∃ R, Wd (capN (valD ds)) = R := ⟨_, rfl⟩
  have HR : Hid (Wd (capN (valD ds)) = R) := hR
  rw [hR]
  obtain ⟨n, hn⟩ : ∃ n, ds.length = n := ⟨_, rfl⟩
  have Hn : Hid (ds.length = n) := hn
  rw [hn]
  have hn0 : (8 : Int) ≤ (n : Int) := by omega
  have hn1 : (n : Int) ≤ 17 := by omega
  clear hx h8 h17 hd hR hn
  go_enter Try.func36, Try.ntmps36
  go_wp2_with fail
  have hw1 := heap_alloc_new w (.cells #[.int .u64 0, .int .u64 0] 45)
  have hu1 : Up w (w.alloc (.cells #[.int .u64 0, .int .u64 0] 45)) := Up.alloc _ _
  have hz1 : (w.alloc (.cells #[.int .u64 0, .int .u64 0] 45)).heap.size = w.heap.size + 1 := by simp
  obtain ⟨w1, hw1e⟩ : ∃ x, w.alloc (.cells #[.int .u64 0, .int .u64 0] 45) = x := ⟨_, rfl⟩
  rw [hw1e] at hw1 hu1 hz1 ⊢
  have H1 : Hid (w1.heap[w.heap.size]? = some (.cells #[.int .u64 0, .int .u64 0] 45 (0, 0)) ∧ Up w w1 ∧ w1.heap.size = w.heap.size + 1) := ⟨hw1, hu1, hz1⟩
  obtain ⟨g2, hg2⟩ : ∃ g, w.heap.size = g := ⟨_, rfl⟩
  rw [hg2] at H1 ⊢
  have Hg2 : Hid (w.heap.size = g2) := hg2
  have c20 : w1.cell? ⟨g2, 0, none⟩ = some (.int .u64 0) := by rw [cell_of_row _ _ _ _ _ _ H1.out.1]; rfl
  have c21 : w1.cell? ⟨g2, 1, none⟩ = some (.int .u64 0) := by rw [cell_of_row _ _ _ _ _ _ H1.out.1]; rfl
  have f20 : w1.frozen? ⟨g2, 0, none⟩ = false := by simp [World.frozen?, H1.out.1]
  have f21 : w1.frozen? ⟨g2, 1, none⟩ = false := by simp [World.frozen?, H1.out.1]
  have z2 : g2 < w1.heap.size := by rw [H1.out.2.2]; omega
  clear hw1 hu1 hz1 hw1e hg2
  go_loopg [3] 9 (fun g i wr => wr = w1 ∧ ∃ k : Nat, (8 : Int) ≤ (k : Int) ∧ (k : Int) ≤ (n : Int) ∧ g = 17 - k ∧ i = .int .i64 k ∧ Hid (∀ m (hm : m < ds.length), 8 ≤ m → m < k → ds[m] = 0))
  case atStart => exact ⟨rfl, 8, by omega, by omega, by omega, rfl, fun m _ h1 h2 => by omega⟩
  case round =>
    obtain ⟨ew, k, hk8, hkn, rfl, rfl, hz⟩ := hrel
    subst ew
    by_cases hlt : (k : Int) < (n : Int)
    · have hkl : k < ds.length := by rw [Hn.out]; omega
      have ck := Hx.out k hkl
      rw [← H1.out.2.1.cell (World.block_lt_of_cell? w _ ck)] at ck
      by_cases h0 : ds[k] = 0
      · rw [h0] at ck
        have Hz : Hid (∀ m (hm : m < ds.length), 8 ≤ m → m < k + 1 → ds[m] = 0) := fun m hm h1 h2 => by
          rcases Nat.lt_or_ge m k with h3 | h3
          · exact hz.out m hm h1 h3
          · obtain rfl : m = k := by omega
            exact h0
        have Hk : Hid (k < n ∧ n ≤ 17 ∧ 8 ≤ k) := ⟨by omega, by omega, by omega⟩
        have ck' : wr.cell? ⟨b, o + k, none⟩ = some (.int .u64 0) := ck
        clear ck h0 hkl hz
        go_wp2
        go_roundg (17 - (k + 1))
        case measure => have := Hk.out; omega
        case rel => exact ⟨rfl, k + 1, by have := Hk.out; omega, by have := Hk.out; omega, rfl, by go_num, Hz⟩
      · have ht := cap_top k hkl (by omega) h0
        rw [HR.out] at ht
        have hne : ((ds[k] : Int) == 0) = false := ne_int _ h0
        generalize ds[k] = x at ck hne
        clear h0 hz
        go_wp2
        exact bodyPost_ret (v := .agg #[.int .u64 18446744073709551615, .int .u64 18446744073709551615]) (by simp [results, Try.results36, go_sem, c20, c21]) rfl ⟨by rw [ht], (H1.out.2.1.setCell (by rw [Hg2.out]; exact Nat.le_refl _) _).setCell (by rw [Hg2.out]; exact Nat.le_refl _) _⟩
    · obtain rfl : k = n := by omega
      have Hz : Hid (∀ m (hm : m < ds.length), 8 ≤ m → ds[m] = 0) := fun m hm h1 => hz.out m hm h1 (by rw [← Hn.out]; exact hm)
      clear hz hlt hkn
      go_wp2_with fail
      have hB : Nb w (wr.alloc (.cells #[.int .u64 0, .int .u64 0] 45)) g2 (g2 + 1) 0 0 := by
        refine ⟨H1.out.2.1.trans (Up.alloc _ _), ?_, ?_, by omega, by rw [Hg2.out]; exact Nat.le_refl _, by rw [Hg2.out]; omega⟩
        · rw [(Up.alloc wr _).block g2 (by rw [H1.out.2.2]; omega)]; exact H1.out.1
        · have := heap_alloc_new wr (.cells #[.int .u64 0, .int .u64 0] 45)
          rw [H1.out.2.2] at this
          exact this
      have hg : wr.heap.size = g2 + 1 := H1.out.2.2
      rw [hg]
      generalize wr.alloc (.cells #[.int .u64 0, .int .u64 0] 45) = w2 at hB ⊢
      generalize g2 + 1 = g4 at hB ⊢
      have HB : Hid (Nb w w2 g2 g4 0 0) := hB
      clear hB hg c20 c21 f20 f21
      go_loopg [5, 6] 9 (fun g i x wr => ∃ (k a b : Nat), (k : Int) ≤ 8 ∧ g = k + 1 ∧ i = .int .i64 ((k : Int) - 1) ∧ Hid (Nb w wr g2 g4 a b ∧ NbS ds k a b))
      case atStart => exact ⟨8, 0, 0, by omega, rfl, rfl, HB.out, NbS.start ds HL.out.1⟩
      case round =>
        obtain ⟨k, a, b', hk8, rfl, rfl, hH⟩ := hrel
        obtain ⟨q0, q1, q2, q3, q4, q5, q6, q7⟩ := hH.out.1.cells
        by_cases hk0 : (k : Int) = 0
        · obtain rfl : k = 0 := by omega
          have hf := hH.out.2.done HL.out.2.2 HL.out.1 (fun m hm h1 => Hz.out m hm h1)
          rw [HR.out] at hf
          have e1 : ((0 : Nat) : Int) - 1 = -1 := rfl
          clear hk0 hk8
          go_wp2
          exact bodyPost_ret (v := .agg #[V a, V b']) (by simp [results, Try.results36, go_sem, q4, q5]) rfl ⟨by rw [hf], (hH.out.1.up.setCell hH.out.1.b2 _).setCell hH.out.1.b2 _⟩
        · obtain ⟨j, rfl⟩ : ∃ j, k = j + 1 := ⟨k - 1, by omega⟩
          have ej : (((j + 1 : Nat) : Int) - 1) = (j : Int) := by omega
          have hj8 : (j : Int) < 8 := by omega
          have hjl : j < ds.length := by have := HL.out.1; omega
          have ck := Hx.out j hjl
          rw [← hH.out.1.up.cell (World.block_lt_of_cell? w _ ck)] at ck
          have hjn : (j : Int) < (k : Int) := by omega
          obtain ⟨x, ex⟩ : ∃ x, ds[j] = x := ⟨_, rfl⟩
          rw [ex] at ck
          rw [ej]
          by_cases h4 : (4 : Int) ≤ (j : Int)
          · obtain ⟨s1, s2⟩ := hH.out.2.high HL.out.2.2 HL.out.1 (by omega) (by omega)
            rw [ex] at s1 s2
            have e1 : IntKind.u64.wrap ((a : Int) * 65536) = ((a * 65536 : Nat) : Int) := by rw [IntKind.wrap_u64]; omega
            have e2 : IntKind.u64.wrap (((a * 65536 : Nat) : Int) + (x : Int)) = ((a * 65536 + x : Nat) : Int) := by rw [IntKind.wrap_u64]; omega
            obtain ⟨Y, eY⟩ : ∃ Y, a * 65536 + x = Y := ⟨_, rfl⟩
            obtain ⟨X, eX⟩ : ∃ X, a * 65536 = X := ⟨_, rfl⟩
            rw [eY] at e2 s1
            rw [eX] at e1 e2
            have Hn' : Hid (Nb w (wr.setCell ⟨g4, 0, none⟩ (V Y)) g2 g4 Y b' ∧ NbS ds j Y b') := ⟨hH.out.1.set0 Y, s1⟩
            clear s1 s2 eX eY ex hk0 hk8 hjl
            go_wp2
            go_roundg (j + 1)
            case measure => omega
            case rel => exact ⟨j, Y, b', by omega, rfl, by go_num, Hn'⟩
          · obtain ⟨s1, s2⟩ := hH.out.2.low HL.out.2.2 HL.out.1 (by omega)
            rw [ex] at s1 s2
            have e1 : IntKind.u64.wrap ((b' : Int) * 65536) = ((b' * 65536 : Nat) : Int) := by rw [IntKind.wrap_u64]; omega
            have e2 : IntKind.u64.wrap (((b' * 65536 : Nat) : Int) + (x : Int)) = ((b' * 65536 + x : Nat) : Int) := by rw [IntKind.wrap_u64]; omega
            obtain ⟨Y, eY⟩ : ∃ Y, b' * 65536 + x = Y := ⟨_, rfl⟩
            obtain ⟨X, eX⟩ : ∃ X, b' * 65536 = X := ⟨_, rfl⟩
            rw [eY] at e2 s1
            rw [eX] at e1 e2
            have Hn' : Hid (Nb w (wr.setCell ⟨g4, 1, none⟩ (V Y)) g2 g4 a Y ∧ NbS ds j a Y) := ⟨hH.out.1.set1 Y, s1⟩
            clear s1 s2 eX eY ex hk0 hk8 hjl
            go_wp2
            go_roundg (j + 1)
            case measure => omega
            case rel => exact ⟨j, a, Y, by omega, rfl, by go_num, Hn'⟩
end Go.Proofs.Ytknanpnbpmmlgaa

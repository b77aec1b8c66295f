/- sat: the reference's DivMod. -/
import Derived.Test.YtknanpnbpmmlgaaSatRefB
set_option linter.unusedVariables false
namespace Go.Proofs.Ytknanpnbpmmlgaa
open Go Go.RowKit

/-- What stands behind the bits from place k on of the number n, divided by d: the remainder r, the quotient's halves h and l. -/
def Dm (n d k r h l : Nat) : Prop := r = n / 2 ^ k % d ∧ (64 ≤ k → h = n / 2 ^ k / d ∧ l = 0) ∧ (k ≤ 64 → h = n / 2 ^ 64 / d ∧ h * 2 ^ (64 - k) + l = n / 2 ^ k / d ∧ l < 2 ^ (64 - k))

theorem Dm.start (n d : Nat) (hn : N128 n) (hd : 0 < d) : Dm n d 128 0 0 0 := by
  have e : n / 2 ^ 128 = 0 := Nat.div_eq_of_lt (by simpa [N128] using hn)
  refine ⟨by rw [e]; simp, fun _ => ⟨by rw [e]; simp, rfl⟩, fun h => by omega⟩

theorem bit_step (n k : Nat) : n / 2 ^ k = 2 * (n / 2 ^ (k + 1)) + n / 2 ^ k % 2 := by
  have e : n / 2 ^ (k + 1) = n / 2 ^ k / 2 := by rw [Nat.pow_succ, Nat.div_div_eq_div_mul]
  rw [e]; omega

/-- One bit: the remainder doubled and the bit, the divisor taken off where it goes. -/
theorem div_bit (m d b : Nat) (hd : 0 < d) (hb : b < 2) : ((2 * (m % d) + b < d → (2 * m + b) / d = 2 * (m / d) ∧ (2 * m + b) % d = 2 * (m % d) + b) ∧ (d ≤ 2 * (m % d) + b → (2 * m + b) / d = 2 * (m / d) + 1 ∧ (2 * m + b) % d = 2 * (m % d) + b - d)) := by
  have h1 := Nat.div_add_mod m d
  have h2 := Nat.mod_lt m hd
  have e0 : 2 * m + b = (2 * (m % d) + b) + d * (2 * (m / d)) := by
    have : d * (2 * (m / d)) = 2 * (d * (m / d)) := Nat.mul_left_comm _ _ _
    omega
  constructor
  · intro h
    rw [e0, Nat.add_mul_div_left _ _ hd, Nat.add_mul_mod_self_left, Nat.div_eq_of_lt h, Nat.mod_eq_of_lt h]
    exact ⟨by omega, rfl⟩
  · intro h
    have e1 : 2 * (m % d) + b = (2 * (m % d) + b - d) + d * 1 := by omega
    have e2 : 2 * m + b = (2 * (m % d) + b - d) + d * (2 * (m / d) + 1) := by rw [Nat.mul_add]; omega
    have h3 : 2 * (m % d) + b - d < d := by omega
    rw [e2, Nat.add_mul_div_left _ _ hd, Nat.add_mul_mod_self_left, Nat.div_eq_of_lt h3, Nat.mod_eq_of_lt h3]
    exact ⟨by omega, rfl⟩

theorem Dm.step {n d k r h l b o r' : Nat} (hD : Dm n d (k + 1) r h l) (hd : 0 < d) (hb : b = n / 2 ^ k % 2) (ho : (2 * r + b < d ∧ o = 0 ∧ r' = 2 * r + b) ∨ (d ≤ 2 * r + b ∧ o = 1 ∧ r' = 2 * r + b - d)) :
    (64 ≤ k → Dm n d k r' (2 * h + o) l) ∧ (k < 64 → Dm n d k r' h (2 * l + o)) := by
  obtain ⟨e1, e2, e3⟩ := hD
  have hbs := bit_step n k
  rw [← hb] at hbs
  have hdb := div_bit (n / 2 ^ (k + 1)) d b hd (by omega)
  rw [← hbs, ← e1] at hdb
  have hq : n / 2 ^ k / d = 2 * (n / 2 ^ (k + 1) / d) + o ∧ n / 2 ^ k % d = r' := by
    rcases ho with ⟨h1, rfl, rfl⟩ | ⟨h1, rfl, rfl⟩
    · exact hdb.1 h1
    · exact hdb.2 h1
  constructor
  · intro hk
    obtain ⟨f1, f2⟩ := e2 (by omega)
    refine ⟨hq.2.symm, fun _ => ⟨by rw [hq.1, f1], f2⟩, fun hk2 => ?_⟩
    obtain rfl : k = 64 := by omega
    refine ⟨by rw [hq.1, f1], ?_, by rw [f2]; decide⟩
    rw [hq.1, f1, f2]; simp
  · intro hk
    obtain ⟨f1, f2, f3⟩ := e3 (by omega)
    have ep : 2 ^ (64 - k) = 2 ^ (64 - (k + 1)) * 2 := by rw [← Nat.pow_succ]; congr 1; omega
    have ho2 : o < 2 := by rcases ho with ⟨_, rfl, _⟩ | ⟨_, rfl, _⟩ <;> omega
    refine ⟨hq.2.symm, fun h => by omega, fun _ => ⟨f1, ?_, ?_⟩⟩
    · rw [hq.1, ← f2, ep, ← Nat.mul_assoc]; omega
    · rw [ep]; omega

theorem Dm.done {n d r h l : Nat} (hD : Dm n d 0 r h l) : r = n % d ∧ Wd (n / d) = .agg #[V h, V l] := by
  obtain ⟨e1, _, e3⟩ := hD
  obtain ⟨f1, f2, f3⟩ := e3 (by omega)
  simp only [Nat.pow_zero, Nat.div_one, Nat.sub_zero] at e1 f2 f3
  have f2' : h * 18446744073709551616 + l = n / d := f2
  have f3' : l < 18446744073709551616 := f3
  exact ⟨e1, wd_eq _ _ _ (by rw [← f2']; exact hi_of _ _ f3') (by rw [← f2']; exact lo_of _ _ f3')⟩

theorem Dm.bounds {n d k r h l : Nat} (hD : Dm n d (k + 1) r h l) (hn : N128 n) (hd : 0 < d) : r < d ∧ (64 ≤ k → 2 * h + 1 < 18446744073709551616) ∧ (k < 64 → 2 * l + 1 < 18446744073709551616) := by
  obtain ⟨e1, e2, e3⟩ := hD
  refine ⟨by rw [e1]; exact Nat.mod_lt _ hd, fun hk => ?_, fun hk => ?_⟩
  · obtain ⟨f1, _⟩ := e2 (by omega)
    have h1 : n / 2 ^ (k + 1) / d ≤ n / 2 ^ (k + 1) := Nat.div_le_self _ _
    have h2 : n / 2 ^ (k + 1) ≤ n / 2 ^ 65 := Nat.div_le_div_left (Nat.pow_le_pow_right (by decide) (by omega)) (by decide)
    have h3 : n / 2 ^ 65 < 2 ^ 63 := by
      rw [Nat.div_lt_iff_lt_mul (by decide)]
      simpa [N128] using hn
    have p63 : (2 : Nat) ^ 63 = 9223372036854775808 := by decide
    omega
  · obtain ⟨_, _, f3⟩ := e3 (by omega)
    have h2 : 2 ^ (64 - (k + 1)) ≤ 2 ^ 63 := Nat.pow_le_pow_right (by decide) (by omega)
    have p63 : (2 : Nat) ^ 63 = 9223372036854775808 := by decide
    omega

/-- The bit at place k, out of the half where it lies. -/
theorem bit_high (n k : Nat) (hk : 64 ≤ k) : hiN n / 2 ^ (k - 64) % 2 = n / 2 ^ k % 2 := by
  have e : n / 2 ^ k = n / 18446744073709551616 / 2 ^ (k - 64) := by
    rw [Nat.div_div_eq_div_mul]
    congr 1
    rw [show (18446744073709551616 : Nat) = 2 ^ 64 from rfl, ← Nat.pow_add]
    congr 1; omega
  unfold hiN; rw [e]
theorem bit_low (n k : Nat) (hk : k < 64) : loN n / 2 ^ k % 2 = n / 2 ^ k % 2 := by
  have h := halves n
  have e : n = loN n + 2 ^ k * (2 * (hiN n * 2 ^ (63 - k))) := by
    have : 2 ^ k * (2 * (hiN n * 2 ^ (63 - k))) = hiN n * 18446744073709551616 := by
      have e2 : 2 ^ k * 2 * 2 ^ (63 - k) = 18446744073709551616 := by
        rw [← Nat.pow_succ, ← Nat.pow_add, show k + 1 + (63 - k) = 64 by omega]
      rw [← e2, ← Nat.mul_assoc, Nat.mul_left_comm, Nat.mul_assoc]
    omega
  have e3 : n / 2 ^ k = loN n / 2 ^ k + 2 * (hiN n * 2 ^ (63 - k)) := by
    conv => lhs; rw [e]
    rw [Nat.add_mul_div_left _ _ (Nat.two_pow_pos k)]
  rw [e3]; omega

theorem dm_nums (r d b : Nat) (hd : d < 18446744073709551616) (hr : r < d) (hb : b < 2) : ∃ T1 T2 r' o : Nat, IntKind.u64.wrap ((2 : Int) * (r : Int)) = (T1 : Int) ∧ IntKind.u64.wrap ((T1 : Int) + (b : Int)) = (T2 : Int) ∧
    ((2 * r + b < d ∧ o = 0 ∧ r' = 2 * r + b) ∨ (d ≤ 2 * r + b ∧ o = 1 ∧ r' = 2 * r + b - d)) ∧
    ((o = 0 ∧ r' = T2 ∧ ¬ (9223372036854775808 : Int) ≤ (r : Int) ∧ ¬ (d : Int) ≤ (T2 : Int)) ∨ (o = 1 ∧ ¬ (9223372036854775808 : Int) ≤ (r : Int) ∧ (d : Int) ≤ (T2 : Int) ∧ IntKind.u64.wrap ((T2 : Int) - (d : Int)) = (r' : Int)) ∨
      (o = 1 ∧ (9223372036854775808 : Int) ≤ (r : Int) ∧ IntKind.u64.wrap ((T2 : Int) - (d : Int)) = (r' : Int))) := by
  by_cases ho : 9223372036854775808 ≤ r
  · refine ⟨2 * r - 18446744073709551616, 2 * r - 18446744073709551616 + b, 2 * r + b - d, 1, ?_, ?_, .inr ⟨by omega, rfl, rfl⟩, .inr (.inr ⟨rfl, by omega, ?_⟩)⟩
    · rw [IntKind.wrap_u64]; omega
    · rw [IntKind.wrap_u64]; omega
    · rw [IntKind.wrap_u64]; omega
  · by_cases hl : 2 * r + b < d
    · refine ⟨2 * r, 2 * r + b, 2 * r + b, 0, ?_, ?_, .inl ⟨hl, rfl, rfl⟩, .inl ⟨rfl, rfl, by omega, by omega⟩⟩
      · rw [IntKind.wrap_u64]; omega
      · rw [IntKind.wrap_u64]; omega
    · refine ⟨2 * r, 2 * r + b, 2 * r + b - d, 1, ?_, ?_, .inr ⟨by omega, rfl, rfl⟩, .inr (.inl ⟨rfl, by omega, by omega, ?_⟩)⟩
      · rw [IntKind.wrap_u64]; omega
      · rw [IntKind.wrap_u64]; omega
      · rw [IntKind.wrap_u64]; omega

theorem dm_quot (h o : Nat) (hh : 2 * h + 1 < 18446744073709551616) (ho : o = 0 ∨ o = 1) : ∃ H1 H2 : Nat, IntKind.u64.wrap ((2 : Int) * (h : Int)) = (H1 : Int) ∧ IntKind.u64.wrap (H1 : Int) = (H1 : Int) ∧ IntKind.u64.wrap ((H1 : Int) + 1) = ((H1 + 1 : Nat) : Int) ∧ H2 = 2 * h + o ∧ (o = 0 → H2 = H1) ∧ (o = 1 → H2 = H1 + 1) := by
  refine ⟨2 * h, 2 * h + o, ?_, ?_, ?_, rfl, ?_, ?_⟩
  · rw [IntKind.wrap_u64]; omega
  · rw [IntKind.wrap_u64]; omega
  · rw [IntKind.wrap_u64]; omega
  · intro h; omega
  · intro h; omega

/-- The boxes of the reference's DivMod: the number, what is answered, the quotient so far. -/
structure Db (w wr : World) (g0 g4 g6 n h l : Nat) : Prop where
  up : Up w wr
  bx : wr.heap[g0]? = some (.cells #[V (hiN n), V (loN n)] 45 (0, 0))
  rs : wr.heap[g4]? = some (.cells #[.int .u64 0, .int .u64 0] 45 (0, 0))
  qt : wr.heap[g6]? = some (.cells #[V h, V l] 45 (0, 0))
  n0 : g0 ≠ g6
  n4 : g4 ≠ g6
  b4 : w.heap.size ≤ g4
  b6 : w.heap.size ≤ g6
theorem Db.cells {w wr : World} {g0 g4 g6 n h l : Nat} (k : Db w wr g0 g4 g6 n h l) : wr.cell? ⟨g0, 0, none⟩ = some (V (hiN n)) ∧ wr.cell? ⟨g0, 1, none⟩ = some (V (loN n)) ∧
    wr.cell? ⟨g6, 0, none⟩ = some (V h) ∧ wr.cell? ⟨g6, 1, none⟩ = some (V l) ∧ wr.frozen? ⟨g6, 0, none⟩ = false ∧ wr.frozen? ⟨g6, 1, none⟩ = false ∧
    wr.cell? ⟨g4, 0, none⟩ = some (.int .u64 0) ∧ wr.cell? ⟨g4, 1, none⟩ = some (.int .u64 0) ∧ wr.frozen? ⟨g4, 0, none⟩ = false ∧ wr.frozen? ⟨g4, 1, none⟩ = false := by
  refine ⟨?_, ?_, ?_, ?_, by simp [World.frozen?, k.qt], by simp [World.frozen?, k.qt], ?_, ?_, by simp [World.frozen?, k.rs], by simp [World.frozen?, k.rs]⟩
  · rw [cell_of_row _ _ _ _ _ _ k.bx]; rfl
  · rw [cell_of_row _ _ _ _ _ _ k.bx]; rfl
  · rw [cell_of_row _ _ _ _ _ _ k.qt]; rfl
  · rw [cell_of_row _ _ _ _ _ _ k.qt]; rfl
  · rw [cell_of_row _ _ _ _ _ _ k.rs]; rfl
  · rw [cell_of_row _ _ _ _ _ _ k.rs]; rfl
theorem Db.set0 {w wr : World} {g0 g4 g6 n h l : Nat} (k : Db w wr g0 g4 g6 n h l) (x : Nat) : Db w (wr.setCell ⟨g6, 0, none⟩ (V x)) g0 g4 g6 n x l := by
  have e : wr.setCell ⟨g6, 0, none⟩ (V x) = _ := setCell_eq_setRow wr g6 0 _ _ _ _ k.qt
  refine ⟨k.up.setCell k.b6 _, ?_, ?_, ?_, k.n0, k.n4, k.b4, k.b6⟩
  · rw [e, setRow_other _ _ _ _ k.n0]; exact k.bx
  · rw [e, setRow_other _ _ _ _ k.n4]; exact k.rs
  · rw [e]; exact setRow_heap wr g6 _ _ _ _ k.qt
theorem Db.set1 {w wr : World} {g0 g4 g6 n h l : Nat} (k : Db w wr g0 g4 g6 n h l) (x : Nat) : Db w (wr.setCell ⟨g6, 1, none⟩ (V x)) g0 g4 g6 n h x := by
  have e : wr.setCell ⟨g6, 1, none⟩ (V x) = _ := setCell_eq_setRow wr g6 1 _ _ _ _ k.qt
  refine ⟨k.up.setCell k.b6 _, ?_, ?_, ?_, k.n0, k.n4, k.b4, k.b6⟩
  · rw [e, setRow_other _ _ _ _ k.n0]; exact k.bx
  · rw [e, setRow_other _ _ _ _ k.n4]; exact k.rs
  · rw [e]; exact setRow_heap wr g6 _ _ _ _ k.qt
theorem Db.start (w : World) (n : Nat) : Db w (((w.alloc (.cells #[V (hiN n), V (loN n)] 45)).alloc (.cells #[.int .u64 0, .int .u64 0] 45)).alloc (.cells #[.int .u64 0, .int .u64 0] 45)) w.heap.size (w.heap.size + 1) (w.heap.size + 1 + 1) n 0 0 := by
  obtain ⟨⟨h0, _⟩, ⟨h1, _⟩, h2, _⟩ := three_boxes w (hiN n) (loN n) 0 0 45
  exact ⟨up3 _ _ _ _, h0, h1, h2, by omega, by omega, by omega, by omega⟩

set_option maxHeartbeats 400000 in
theorem RDivMod_zero (a : Nat) (w : World) : Calls Try.prog 30 #[Wd a, .int .u64 0] w fun e w' => e = .returned (.tuple #[Wd 0, .int .u64 0]) ∧ Up w w' := by
  rw [wd_zero]
  go_enter Try.func30, Try.ntmps30
  go_wp2
  exact bodyPost_ret (v := .tuple #[.agg #[.int .u64 0, .int .u64 0], .int .u64 0]) (by simp [results, Try.results30, go_sem]) rfl ⟨rfl, up2 _ _ _⟩

set_option maxHeartbeats 3200000 in
theorem RDivMod_pos (n d : Nat) (hn : N128 n) (hd : 0 < d) (hd' : N64 d) (w : World) : Calls Try.prog 30 #[Wd n, V d] w fun e w' => e = .returned (.tuple #[Wd (n / d), V (n % d)]) ∧ Up w w' := by
  have d0 : ((d : Int) == 0) = false := ne_int d (by omega)
  have HN : Hid (N128 n ∧ 0 < d ∧ N64 d) := ⟨hn, hd, hd'⟩
  obtain ⟨Q, hQ⟩ : ∃ Q, Value.tuple #[Wd (n / d), V (n % d)] = Q := ⟨_, rfl⟩
  have HQ : Hid (Value.tuple #[Wd (n / d), V (n % d)] = Q) := hQ
  rw [hQ]
  clear hn hd hd' hQ
  go_enter Try.func30, Try.ntmps30
  go_wp2_with fail
  have hB := Db.start w n
  generalize ((w.alloc (.cells #[V (hiN n), V (loN n)] 45)).alloc (.cells #[.int .u64 0, .int .u64 0] 45)).alloc (.cells #[.int .u64 0, .int .u64 0] 45) = W at hB ⊢
  generalize w.heap.size + 1 + 1 = g6 at hB ⊢
  generalize w.heap.size + 1 = g4 at hB ⊢
  generalize w.heap.size = g0 at hB ⊢
  have HB : Hid (Db w W g0 g4 g6 n 0 0) := hB
  clear hB
  go_loopg [7, 8, 9, 10, 11] 128 (fun g r i bt ov on wr => ∃ (k R h l : Nat), (k : Int) ≤ 128 ∧ k = g ∧ i = .int .i64 ((k : Int) - 1) ∧ r = V R ∧ Hid (Db w wr g0 g4 g6 n h l ∧ Dm n d k R h l))
  case atStart => exact ⟨128, 0, 0, 0, by omega, rfl, rfl, rfl, HB.out, Dm.start n d HN.out.1 HN.out.2.1⟩
  case round =>
    obtain ⟨k, R, h, l, hk8, rfl, rfl, rfl, hH⟩ := hrel
    clear HB
    obtain ⟨q0, q1, q2, q3, q4, q5, q6, q7, q8, q9⟩ := hH.out.1.cells
    by_cases hk0 : (k : Int) = 0
    · obtain rfl : k = 0 := by omega
      obtain ⟨f1, f2⟩ := hH.out.2.done
      have hf := HQ.out
      rw [← f1, f2] at hf
      subst hf
      have e1 : ((0 : Nat) : Int) - 1 = -1 := rfl
      have Hb : Hid (Up w wr ∧ w.heap.size ≤ g4) := ⟨hH.out.1.up, hH.out.1.b4⟩
      clear HQ f1 f2 hH hk0 hk8
      go_wp2
      exact bodyPost_ret (v := .tuple #[.agg #[V h, V l], V R]) (by simp [results, Try.results30, go_sem, q6, q7]) rfl ⟨rfl, (Hb.out.1.setCell Hb.out.2 _).setCell Hb.out.2 _⟩
    · obtain ⟨j, rfl⟩ : ∃ j, k = j + 1 := ⟨k - 1, by omega⟩
      have ej : (((j + 1 : Nat) : Int) - 1) = (j : Int) := by omega
      rw [ej]
      have hj8 : (j : Int) < 128 := by omega
      have hj0 : (0 : Int) ≤ (j : Int) := by omega
      obtain ⟨r1, r2, r3⟩ := hH.out.2.bounds HN.out.1 HN.out.2.1
      obtain ⟨b, hb⟩ : ∃ b, n / 2 ^ j % 2 = b := ⟨_, rfl⟩
      have hb2 : b < 2 := by omega
      obtain ⟨T1, T2, r', o, w1, w2, ho, hcase⟩ := dm_nums R d b HN.out.2.2 r1 hb2
      have hst := hH.out.2.step HN.out.2.1 hb.symm ho
      have ho01 : o = 0 ∨ o = 1 := by rcases ho with ⟨_, h1, _⟩ | ⟨_, h1, _⟩ <;> omega
      have HD : Hid (Db w wr g0 g4 g6 n h l) := hH.out.1
      clear hk0 hk8 ej hH ho
      by_cases h64 : (64 : Int) ≤ (j : Int)
      · have hjn : 64 ≤ j := by omega
        obtain ⟨s, es⟩ : ∃ s, j - 64 = s := ⟨_, rfl⟩
        have e1 : (j : Int) - 64 = (s : Int) := by omega
        have es63 : (s : Int) ≤ 63 := by omega
        obtain ⟨X, eX⟩ : ∃ X, hiN n / 2 ^ s = X := ⟨_, rfl⟩
        have e2 : (hiN n : Int) / 2 ^ s = (X : Int) := by rw [← eX, Int.natCast_ediv, Int.natCast_pow]; rfl
        have e3 : (X : Int) % 2 = (b : Int) := by
          have := bit_high n j hjn
          rw [es, eX, hb] at this
          omega
        obtain ⟨H1, H2, g1, g2, g3, g4', g5, g6'⟩ := dm_quot h o (r2 hjn) ho01
        have hnew := hst.1 hjn
        rw [← g4'] at hnew
        have HM : Hid (Dm n d j r' H2 l) := hnew
        have HS : Hid (Db w (wr.setCell ⟨g6, 0, none⟩ (V H2)) g0 g4 g6 n H2 l) := HD.out.set0 H2
        clear hst hnew r2 r3 es eX hb hb2 ho01 hjn g4'
        rcases hcase with ⟨ho, hr, c1, c2⟩ | ⟨ho, c1, c2, c3⟩ | ⟨ho, c1, c3⟩
        · have hH2 := g5 ho
          subst hH2 hr ho
          clear g5 g6'
          go_wp2
          go_roundg j
          case measure => omega
          case rel => exact ⟨j, r', H2, l, by omega, rfl, by go_num, rfl, HS.out, HM.out⟩
        · have hH2 := g6' ho
          subst hH2 ho
          clear g5 g6'
          go_wp2
          go_roundg j
          case measure => omega
          case rel => exact ⟨j, r', H1 + 1, l, by omega, rfl, by go_num, rfl, HS.out, HM.out⟩
        · have hH2 := g6' ho
          subst hH2 ho
          clear g5 g6'
          go_wp2
          go_roundg j
          case measure => omega
          case rel => exact ⟨j, r', H1 + 1, l, by omega, rfl, by go_num, rfl, HS.out, HM.out⟩
      · have hjn : j < 64 := by omega
        have es63 : (j : Int) ≤ 63 := by omega
        obtain ⟨X, eX⟩ : ∃ X, loN n / 2 ^ j = X := ⟨_, rfl⟩
        have e2 : (loN n : Int) / 2 ^ j = (X : Int) := by rw [← eX, Int.natCast_ediv, Int.natCast_pow]; rfl
        have e3 : (X : Int) % 2 = (b : Int) := by
          have := bit_low n j hjn
          rw [eX, hb] at this
          omega
        obtain ⟨H1, H2, g1, g2, g3, g4', g5, g6'⟩ := dm_quot l o (r3 hjn) ho01
        have hnew := hst.2 hjn
        rw [← g4'] at hnew
        have HM : Hid (Dm n d j r' h H2) := hnew
        have HS : Hid (Db w (wr.setCell ⟨g6, 1, none⟩ (V H2)) g0 g4 g6 n h H2) := HD.out.set1 H2
        clear hst hnew r2 r3 eX hb hb2 ho01 hjn g4'
        rcases hcase with ⟨ho, hr, c1, c2⟩ | ⟨ho, c1, c2, c3⟩ | ⟨ho, c1, c3⟩
        · have hH2 := g5 ho
          subst hH2 hr ho
          clear g5 g6'
          go_wp2
          go_roundg j
          case measure => omega
          case rel => exact ⟨j, r', h, H2, by omega, rfl, by go_num, rfl, HS.out, HM.out⟩
        · have hH2 := g6' ho
          subst hH2 ho
          clear g5 g6'
          go_wp2
          go_roundg j
          case measure => omega
          case rel => exact ⟨j, r', h, H1 + 1, by omega, rfl, by go_num, rfl, HS.out, HM.out⟩
        · have hH2 := g6' ho
          subst hH2 ho
          clear g5 g6'
          go_wp2
          go_roundg j
          case measure => omega
          case rel => exact ⟨j, r', h, H1 + 1, by omega, rfl, by go_num, rfl, HS.out, HM.out⟩

theorem RDivMod_any (n d : Nat) (hn : N128 n) (hd' : N64 d) (w : World) : d = 0 ∧ (Calls Try.prog 30 #[Wd n, V d] w fun e w' => e = .returned (.tuple #[Wd 0, V 0]) ∧ Up w w') ∨
    0 < d ∧ (Calls Try.prog 30 #[Wd n, V d] w fun e w' => e = .returned (.tuple #[Wd (n / d), V (n % d)]) ∧ Up w w') := by
  rcases Nat.eq_zero_or_pos d with rfl | h
  · left; exact ⟨rfl, RDivMod_zero n w⟩
  · right; exact ⟨h, RDivMod_pos n d hn h hd' w⟩
end Go.Proofs.Ytknanpnbpmmlgaa

/- sat: the reference's product. -/
import Derived.Test.YtknanpnbpmmlgaaSatNumb
set_option linter.unusedVariables false
namespace Go.Proofs.Ytknanpnbpmmlgaa
open Go Go.RowKit

theorem make_u64 (n : Nat) (hn : n ≤ 1000000) (u : World) : (Instr.makeSlice 58 (.int .i64 (n : Int)) (.int .i64 (n : Int))).run Try.prog u =
    .ok (.slice (some ⟨u.heap.size, 0, none⟩) n n) (u.alloc (.cells (madeCells #[.int .u64 0] n) 25)) := by
  obtain ⟨i0, hi, hz0, hz1, hz2⟩ := info_parts Try.infoU64
  have h := run_make (P := Try.prog) u 58 25 i0 (.int .u64 0) Try.underlying58 hi hz0 .i64 .i64 (n : Int) (n : Int) (by omega) (by omega) (by rw [hz2]; omega) (by omega)
  simpa [hz1, Value.cells] using h

/-- A block of digits that is written in place. -/
structure Pd (w wr : World) (g : Nat) (ps : List Nat) : Prop where
  up : Up w wr
  c : wr.heap[g]? = some (.cells (Vs ps).toArray 25 (0, 0))
  base : w.heap.size ≤ g

theorem Pd.cell {w wr : World} {g : Nat} {ps : List Nat} (h : Pd w wr g ps) (k : Nat) (hk : k < ps.length) : wr.cell? ⟨g, k, none⟩ = some (V ps[k]) ∧ wr.frozen? ⟨g, k, none⟩ = false := by
  refine ⟨?_, by simp [World.frozen?, h.c]⟩
  rw [cell_of_row _ _ _ _ _ _ h.c]
  simp [hk]
theorem Pd.set {w wr : World} {g : Nat} {ps : List Nat} (h : Pd w wr g ps) (k x : Nat) : Pd w (wr.setCell ⟨g, k, none⟩ (V x)) g (ps.set k x) := by
  have e : wr.setCell ⟨g, k, none⟩ (V x) = _ := setCell_eq_setRow wr g k _ _ _ _ h.c
  refine ⟨h.up.setCell h.base _, ?_, h.base⟩
  rw [e, setRow_heap wr g _ _ _ _ h.c]
  simp [Vs, List.map_set]
theorem Pd.drewN {w wr : World} {g : Nat} {ps : List Nat} (h : Pd w wr g ps) (n : Nat) : Pd w (wr.drewN n) g ps := ⟨h.up.trans (upDrewN _ _), h.c, h.base⟩
theorem Pd.sl {w wr : World} {g : Nat} {ps : List Nat} (h : Pd w wr g ps) (cap : Nat) : SlD wr (.slice (some ⟨g, 0, none⟩) ps.length cap) ps :=
  ⟨g, 0, cap, rfl, fun i hi => by rw [Nat.zero_add]; exact (h.cell i hi).1⟩

/-- What stands when i rows are whole and j digits of the next one: the digits, and the carry. -/
structure Pr (da db : List Nat) (i j : Nat) (ps : List Nat) (c : Nat) : Prop where
  len : ps.length = 17
  dg : Digs ps
  cl : c < 65536
  zero : ∀ m (hm : m < ps.length), i + 8 ≤ m → ps[m] = 0
  val : valD ps + 65536 ^ (i + j) * c = valD (da.take i) * valD db + 65536 ^ i * (da[i]?.getD 0) * valD (db.take j)

theorem pr_num (p x y c : Nat) (hp : p < 65536) (hx : x < 65536) (hy : y < 65536) (hc : c < 65536) : c + (p + x * y) < 4294967296 := by
  have := Nat.mul_le_mul (show x ≤ 65535 by omega) (show y ≤ 65535 by omega)
  omega

theorem Pr.step {da db ps : List Nat} {i j c : Nat} (h : Pr da db i j ps c) (hi : i < 8) (hj : j < 8) (la : da.length = 8) (lb : db.length = 8) (ga : Digs da) (gb : Digs db) :
    Pr da db i (j + 1) (ps.set (i + j) ((c + (ps[i + j]'(by rw [h.len]; omega) + da[i] * db[j])) % 65536)) ((c + (ps[i + j]'(by rw [h.len]; omega) + da[i] * db[j])) / 65536) := by
  have hlen := h.len
  have hk : i + j < ps.length := by omega
  have hp := digs_get h.dg (i + j) hk
  have hx := digs_get ga i (by omega)
  have hy := digs_get gb j (by omega)
  have hb := pr_num _ _ _ _ hp hx hy h.cl
  have hv := h.val
  have hs := val_set ps (i + j) ((c + (ps[i + j] + da[i] * db[j])) % 65536) hk
  have ht := val_take db j (by omega)
  rw [List.getElem?_eq_getElem (by omega : i < da.length), Option.getD_some] at hv
  refine ⟨by simp [hlen], digs_set h.dg (Nat.mod_lt _ (by decide)), by omega, ?_, ?_⟩
  · intro m hm h8
    rw [List.getElem_set_ne (by omega)]
    exact h.zero m (by simpa using hm) h8
  · rw [List.getElem?_eq_getElem (by omega : i < da.length), Option.getD_some, ht]
    have e1 : (65536 : Nat) ^ (i + (j + 1)) = 65536 ^ (i + j) * 65536 := by rw [← Nat.add_assoc, Nat.pow_succ]
    have e2 : 65536 ^ i * da[i] * (valD (db.take j) + 65536 ^ j * db[j]) = 65536 ^ i * da[i] * valD (db.take j) + 65536 ^ (i + j) * (da[i] * db[j]) := by
      rw [Nat.mul_add, Nat.pow_add]
      congr 1
      rw [Nat.mul_assoc, Nat.mul_assoc, Nat.mul_left_comm da[i]]
    rw [e1, e2]
    generalize da[i] * db[j] = xy at *
    generalize ps[i + j] = p at *
    generalize 65536 ^ i * da[i] * valD (db.take j) = A at *
    generalize valD (da.take i) * valD db = B at *
    generalize 65536 ^ (i + j) = P at *
    have hm := Nat.div_add_mod (c + (p + xy)) 65536
    generalize (c + (p + xy)) / 65536 = q at *
    generalize (c + (p + xy)) % 65536 = r at *
    have h2 : P * (65536 * q + r) = P * (c + (p + xy)) := by rw [hm]
    rw [Nat.mul_add, Nat.mul_add, Nat.mul_add, ← Nat.mul_assoc] at h2
    omega

theorem Pr.row {da db ps : List Nat} {i c : Nat} (h : Pr da db i 8 ps c) (hi : i < 8) (la : da.length = 8) (lb : db.length = 8) :
    ps[i + 8]'(by rw [h.len]; omega) = 0 ∧ Pr da db (i + 1) 0 (ps.set (i + 8) c) 0 := by
  have hlen := h.len
  have hk : i + 8 < ps.length := by omega
  have hz := h.zero (i + 8) hk (Nat.le_refl _)
  have hv := h.val
  have hs := val_set ps (i + 8) c hk
  rw [hz] at hs
  have ht := val_take da i (by omega)
  rw [List.getElem?_eq_getElem (by omega : i < da.length), Option.getD_some, List.take_of_length_le (show db.length ≤ 8 by omega)] at hv
  refine ⟨hz, by simp [hlen], digs_set h.dg h.cl, by decide, ?_, ?_⟩
  · intro m hm h8
    rw [List.getElem_set_ne (by omega)]
    exact h.zero m (by simpa using hm) (by omega)
  · rw [ht, List.take_zero]
    simp only [valD, Nat.mul_zero, Nat.add_zero]
    rw [Nat.add_mul]
    omega
theorem Pr.start (da db : List Nat) : Pr da db 0 0 (List.replicate 17 0) 0 where
  len := by simp
  dg := fun d hd => by rw [(List.mem_replicate.1 hd).2]; decide
  cl := by decide
  zero := fun m hm _ => List.getElem_replicate _
  val := by
    rw [val_zeros _ (fun k hk => List.getElem_replicate _)]
    simp [valD]
theorem Pr.done {da db ps : List Nat} (h : Pr da db 8 0 ps 0) (la : da.length = 8) : valD ps = valD da * valD db := by
  have hv := h.val
  rw [List.take_of_length_le (by omega), List.take_zero] at hv
  simpa [valD] using hv

set_option maxHeartbeats 3200000 in
theorem product_any (va vb : Value) (da db : List Nat) (w : World) (ha : SlD w va da) (hb : SlD w vb db) (la : da.length = 8) (lb : db.length = 8) (ga : Digs da) (gb : Digs db) :
    Calls Try.prog 39 #[va, vb] w fun e w' => ∃ v ds, e = .returned v ∧ SlD w' v ds ∧ ds.length = 17 ∧ Digs ds ∧ valD ds = valD da * valD db ∧ Up w w' := by
  obtain ⟨ba, oa, pa, rfl, hxa⟩ := ha
  obtain ⟨bb, ob, pb, rfl, hxb⟩ := hb
  rw [la, lb]
  have Ha : Hid (∀ (i : Nat) (h : i < da.length), w.cell? ⟨ba, oa + i, none⟩ = some (V da[i])) := hxa
  have Hb : Hid (∀ (i : Nat) (h : i < db.length), w.cell? ⟨bb, ob + i, none⟩ = some (V db[i])) := hxb
  have HL : Hid (da.length = 8 ∧ db.length = 8 ∧ Digs da ∧ Digs db) := ⟨la, lb, ga, gb⟩
  have mk : ∀ u : World, (Instr.makeSlice 58 (.int .i64 17) (.int .i64 17)).run Try.prog u = .ok (.slice (some ⟨u.heap.size, 0, none⟩) 17 17) (u.alloc (.cells (madeCells #[.int .u64 0] 17) 25)) := fun u => make_u64 17 (by omega) u
  have hst : Pd w (w.alloc (.cells (madeCells #[.int .u64 0] 17) 25)) w.heap.size (List.replicate 17 0) := by
    refine ⟨Up.alloc _ _, ?_, Nat.le_refl _⟩
    rw [heap_alloc_new]
    have e : madeCells #[.int .u64 0] 17 = (Vs (List.replicate 17 0)).toArray := by
      apply Array.toList_inj.1
      rw [toList_madeCells_one, List.toList_toArray, Vs, List.map_replicate]
      rfl
    rw [e]
  clear hxa hxb la lb ga gb
  go_enter Try.func39, Try.ntmps39
  go_wp2_with fail
  obtain ⟨w1, hw1⟩ : ∃ x, w.alloc (.cells (madeCells #[.int .u64 0] 17) 25) = x := ⟨_, rfl⟩
  rw [hw1] at hst ⊢
  have HS : Hid (Pd w w1 w.heap.size (List.replicate 17 0)) := hst
  clear hw1 hst mk
  obtain ⟨gp, hgp⟩ : ∃ g, w.heap.size = g := ⟨_, rfl⟩
  rw [hgp] at HS ⊢
  clear hgp
  go_loopg [6, 7, 8] 8 (fun g i c j wr => ∃ (k : Nat) (ps : List Nat), (k : Int) ≤ 8 ∧ g = 8 - k ∧ i = .int .i64 k ∧ Hid (Pd w wr gp ps ∧ Pr da db k 0 ps 0))
  case atStart => exact ⟨0, _, by omega, rfl, rfl, HS.out, Pr.start da db⟩
  case round =>
    obtain ⟨k, ps, hk8, rfl, rfl, hH⟩ := hrel
    by_cases hlt : (k : Int) < 8
    · have Hk : Hid (k < 8) := by show k < 8; omega
      have hk0 : (0 : Int) ≤ (k : Int) := by omega
      clear HS
      go_wp2_with fail
      obtain ⟨W0, rfl⟩ : ∃ W0, W0 = wr := ⟨_, rfl⟩
      go_loopg [7, 8] 8 (fun g c j wr => ∃ (m C : Nat) (qs : List Nat), (m : Int) ≤ 8 ∧ g = 8 - m ∧ j = .int .i64 m ∧ c = V C ∧ Hid (Pd w wr gp qs ∧ Pr da db k m qs C))
      case atStart => exact ⟨0, 0, ps, by omega, rfl, rfl, rfl, hH⟩
      case round =>
        obtain ⟨m, C, qs, hm8, rfl, rfl, rfl, hG⟩ := hrel
        clear hH
        by_cases hm : (m : Int) < 8
        · have Hm : Hid (m < 8) := by show m < 8; omega
          have hm0 : (0 : Int) ≤ (m : Int) := by omega
          have hki : k < da.length := by rw [HL.out.1]; exact Hk.out
          have hmi : m < db.length := by rw [HL.out.2.1]; exact Hm.out
          have hkm : k + m < qs.length := by rw [hG.out.2.len]; have := Hk.out; have := Hm.out; omega
          have ca := Ha.out k hki
          have cb := Hb.out m hmi
          rw [← hG.out.1.up.cell (World.block_lt_of_cell? w _ ca)] at ca
          rw [← hG.out.1.up.cell (World.block_lt_of_cell? w _ cb)] at cb
          obtain ⟨cp, fp⟩ := hG.out.1.cell (k + m) hkm
          have hst := hG.out.2.step Hk.out Hm.out HL.out.1 HL.out.2.1 HL.out.2.2.1 HL.out.2.2.2
          have hb := pr_num _ _ _ _ (digs_get hG.out.2.dg (k + m) hkm) (digs_get HL.out.2.2.1 k hki) (digs_get HL.out.2.2.2 m hmi) hG.out.2.cl
          obtain ⟨x, ex⟩ : ∃ x, da[k] = x := ⟨_, rfl⟩
          obtain ⟨y, ey⟩ : ∃ y, db[m] = y := ⟨_, rfl⟩
          obtain ⟨p, ep⟩ : ∃ p, qs[k + m] = p := ⟨_, rfl⟩
          simp only [ex, ey, ep] at ca cb cp hst hb
          obtain ⟨xy, exy⟩ : ∃ t, x * y = t := ⟨_, rfl⟩
          rw [exy] at hst hb
          have e1 : IntKind.u64.wrap ((x : Int) * (y : Int)) = (xy : Int) := by rw [mul_n, exy]; exact wrap_n _ (by omega)
          obtain ⟨t1, et1⟩ : ∃ t, p + xy = t := ⟨_, rfl⟩
          rw [et1] at hst hb
          have e2 : IntKind.u64.wrap ((p : Int) + (xy : Int)) = (t1 : Int) := by rw [IntKind.wrap_u64]; omega
          obtain ⟨t2, et2⟩ : ∃ t, C + t1 = t := ⟨_, rfl⟩
          rw [et2] at hst hb
          have e3 : IntKind.u64.wrap ((C : Int) + (t1 : Int)) = (t2 : Int) := by rw [IntKind.wrap_u64]; omega
          obtain ⟨r, er⟩ : ∃ r, t2 % 65536 = r := ⟨_, rfl⟩
          obtain ⟨q, eq⟩ : ∃ q, t2 / 65536 = q := ⟨_, rfl⟩
          rw [er, eq] at hst
          have e4 : (t2 : Int) % 65536 = (r : Int) := by omega
          have e5 : (t2 : Int) / 65536 = (q : Int) := by omega
          have e6 : IntKind.u64.wrap (q : Int) = (q : Int) := wrap_n _ (by omega)
          obtain ⟨s, es⟩ : ∃ s, k + m = s := ⟨_, rfl⟩
          have e8 : (k : Int) + (m : Int) = (s : Int) := by rw [← es]; rfl
          have hs17 : (s : Int) < 17 := by
            have h1 := Hk.out
            have h2 := Hm.out
            clear hst hb e1 e2 e3 e4 e5 e6
            omega
          have hs0 : (0 : Int) ≤ (s : Int) := Int.natCast_nonneg s
          rw [es] at cp fp hst
          have Hst : Hid (Pd w (wr.setCell ⟨gp, s, none⟩ (V r)) gp (qs.set s r) ∧ Pr da db k (m + 1) (qs.set s r) q) := ⟨hG.out.1.set s r, hst⟩
          have Hdr : Hid (∀ n, Pd w ((wr.drewN n).setCell ⟨gp, s, none⟩ (V r)) gp (qs.set s r)) := fun n => (hG.out.1.drewN n).set s r
          clear hst hb ex ey ep exy et1 et2 er eq es hki hmi hkm hG hm8
          go_wp2_with fail
          go_quiet (fail)
          go_wp2
          go_roundg (8 - (m + 1))
          case measure => have := Hm.out; omega
          case rel => exact ⟨m + 1, q, qs.set s r, by have := Hm.out; omega, rfl, by go_num, rfl, Hdr.out _, Hst.out.2⟩
        · obtain rfl : m = 8 := by omega
          obtain ⟨hz, hrow⟩ := hG.out.2.row Hk.out HL.out.1 HL.out.2.1
          have hkm : k + 8 < qs.length := by rw [hG.out.2.len]; have := Hk.out; omega
          obtain ⟨cp, fp⟩ := hG.out.1.cell (k + 8) hkm
          rw [hz] at cp
          obtain ⟨s, es⟩ : ∃ s, k + 8 = s := ⟨_, rfl⟩
          rw [es] at cp fp hrow
          have cp' : wr.cell? ⟨gp, s, none⟩ = some (.int .u64 0) := cp
          have e8 : (k : Int) + 8 = (s : Int) := by rw [← es]; rfl
          have hs17 : (s : Int) < 17 := by have := Hk.out; omega
          have hs0 : (0 : Int) ≤ (s : Int) := Int.natCast_nonneg s
          have e9 : IntKind.u64.wrap (C : Int) = (C : Int) := wrap_n C (by have := hG.out.2.cl; omega)
          have Hst : Hid (Pd w (wr.setCell ⟨gp, s, none⟩ (V C)) gp (qs.set s C) ∧ Pr da db (k + 1) 0 (qs.set s C) 0) := ⟨hG.out.1.set s C, hrow⟩
          clear hz hrow hkm es hG hm8 hm cp
          go_wp2
          go_roundg (8 - (k + 1))
          case measure => have := Hk.out; omega
          case rel => exact ⟨k + 1, qs.set s C, by have := Hk.out; omega, rfl, by go_num, Hst⟩
    · obtain rfl : k = 8 := by omega
      have Hf : Hid (SlD wr (.slice (some ⟨gp, 0, none⟩) 17 17) ps ∧ ps.length = 17 ∧ Digs ps ∧ valD ps = valD da * valD db ∧ Up w wr) := by
        obtain ⟨h1, h2⟩ := hH.out
        have h3 := h1.sl 17
        rw [h2.len] at h3
        exact ⟨h3, h2.len, h2.dg, h2.done HL.out.1, h1.up⟩
      clear hH HS hlt hk8
      go_wp2
      go_ret
      exact ⟨_, ps, rfl, Hf.out⟩
end Go.Proofs.Ytknanpnbpmmlgaa

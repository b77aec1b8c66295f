/- strconv's ParseUint at base 16 and 64 bits: what it answers of sixteen digits; elsewhere that it answers. -/
import Derived.Test.YtkfjkfpodkbkaaaGreatDoorMg25
import Derived.Test.YtkfjkfpodkbkaaaGreatDoorSgHex2
import Derived.Test.YtkfjkfpodkbkaaaGreatDoorMg31
import Derived.Deep.LoopGhost
import Derived.Deep.RegionWith
set_option linter.unusedVariables false
set_option linter.unusedSimpArgs false
namespace Go.Proofs.YtkfjkfpodkbkaaaGreatDoor
open Go Go.RowKit

/-- The row that a conversion of a string makes, of any length. -/
theorem conv_sl (w : World) (bs : List UInt8) :
    ∃ w', (convert 9 60 (.string ⟨bs.toArray⟩)).run Tryz.prog w = .ok (.slice (some ⟨w.heap.size, 0, none⟩) bs.length (grownCap w bs.length 0 5)) w' ∧ At w' w.heap.size 0 bs ∧ Up w w' := by
  have h := Lib.run_convert_string_bytes (P := Tryz.prog) w 9 60 5 ⟨bs.toArray⟩ Tryz.underlying9 Tryz.underlying60 Tryz.underlying5
  have hsz : (⟨bs.toArray⟩ : ByteArray).size = bs.length := by simp [ByteArray.size]
  rw [hsz] at h
  have hnew := Lib.bytesWorld_at_new w 5 ⟨bs.toArray⟩
  refine ⟨_, h, ?_, ⟨?_, ?_, ?_, ?_, fun k hk => Lib.bytesWorld_at_old w _ _ k hk⟩⟩
  · intro i hi
    rw [cell_of_row _ _ _ _ _ _ hnew]
    have : (Lib.bytesCells w 5 ⟨bs.toArray⟩).toList[i]? = some (B bs[i]) := by
      simp only [Lib.bytesCells, Array.toList_append]
      rw [List.getElem?_append_left (by simpa using hi)]
      simp [hi]
    rw [Nat.zero_add]
    simpa using this
  · unfold Lib.bytesWorld World.freeze; rw [if_neg (by decide)]; rfl
  · unfold Lib.bytesWorld World.freeze; rw [if_neg (by decide)]; rfl
  · unfold Lib.bytesWorld World.freeze; rw [if_neg (by decide)]; rfl
  · rw [Lib.bytesWorld_size]; omega

def lowC (c : UInt8) : UInt8 := c ||| 32
theorem low_or (c : UInt8) : bits BinOp.or IntKind.u8 (c.toNat : Int) 32 = ((lowC c).toNat : Int) := by
  have key : ∀ k : Fin 256, bits BinOp.or IntKind.u8 ((UInt8.ofNat k.val).toNat : Int) 32 = ((lowC (UInt8.ofNat k.val)).toNat : Int) := by decide +kernel
  have := key ⟨c.toNat, c.toNat_lt⟩
  simpa [UInt8.ofNat_toNat] using this
theorem low_dig (c : UInt8) (h : isDig c = true) : (c.toNat ≤ 57 → 48 ≤ c.toNat ∧ dval c = c.toNat - 48) ∧ (57 < c.toNat → lowC c = c ∧ 97 ≤ c.toNat ∧ c.toNat ≤ 102 ∧ dval c = c.toNat - 87) := by
  have key : ∀ k : Fin 256, isDig (UInt8.ofNat k.val) = true → ((UInt8.ofNat k.val).toNat ≤ 57 → 48 ≤ (UInt8.ofNat k.val).toNat ∧ dval (UInt8.ofNat k.val) = (UInt8.ofNat k.val).toNat - 48) ∧ (57 < (UInt8.ofNat k.val).toNat → lowC (UInt8.ofNat k.val) = UInt8.ofNat k.val ∧ 97 ≤ (UInt8.ofNat k.val).toNat ∧ (UInt8.ofNat k.val).toNat ≤ 102 ∧ dval (UInt8.ofNat k.val) = (UInt8.ofNat k.val).toNat - 87) := by decide +kernel
  have := key ⟨c.toNat, c.toNat_lt⟩
  simpa [UInt8.ofNat_toNat] using this (by simpa [UInt8.ofNat_toNat] using h)
theorem lower_any (c : UInt8) (w : World) : Calls Tryz.prog 123 #[B c] w fun e w' => e = .returned (B (lowC c)) ∧ w' = w := by
  have h := low_or c
  have h0 : (0 : Int) ≤ (c.toNat : Int) := by omega
  have h1 : (c.toNat : Int) ≤ 255 := by have := c.toNat_lt; omega
  go_enter Tryz.func123, Tryz.ntmps123
  go_wp2
  go_ret
  exact ⟨rfl, rfl⟩

/-- An error of the package's own. -/
abbrev PE (k : Int) : Value := .iface 169 (.int .i64 k)
/-- What ParseUint answers. -/
def PrsI (L : List UInt8) (e : Ending) : Prop := ∃ (n : Nat) (v : Value), e = .returned (.tuple #[.int .u64 (n : Int), v]) ∧ n < 18446744073709551616 ∧ (v = .nilIface ∨ v = PE 1 ∨ v = PE 2) ∧ ∀ x, x < 18446744073709551616 → L = D16 16 x → n = x ∧ v = .nilIface
theorem PrsI.err {L : List UInt8} {n : Nat} {k : Int} (h : n < 18446744073709551616) (hk : k = 1 ∨ k = 2) (hn : ∀ x, x < 18446744073709551616 → L = D16 16 x → False) : PrsI L (.returned (.tuple #[.int .u64 (n : Int), PE k])) :=
  ⟨n, _, rfl, h, by rcases hk with rfl | rfl <;> simp, fun x hx e => (hn x hx e).elim⟩

set_option maxRecDepth 20000 in
set_option maxHeartbeats 1600000 in
theorem parse16i (L : List UInt8) (w : World) (hl : L.length ≤ 281474976710656) :
    Calls Tryz.prog 73 #[Sv L, .int .i64 16, .int .i64 64] w fun e w' => PrsI L e ∧ Up w w' := by
  by_cases h0 : L = []
  · subst h0
    go_enter Tryz.func73, Tryz.ntmps73
    go_wp2
    go_ret2
    exact ⟨PrsI.err (n := 0) (by omega) (.inr rfl) (fun x hx e => by have := congrArg List.length e; rw [D16_length] at this; simp at this), Up.refl _⟩
  · have hq : L.isEmpty = false := by cases L with | nil => exact absurd rfl h0 | cons _ _ => rfl
    obtain ⟨wc, hcv, hat, hup⟩ := conv_sl w L
    obtain ⟨N, hN⟩ : ∃ N, L.length = N := ⟨_, rfl⟩
    obtain ⟨bk, hbk⟩ : ∃ bk, w.heap.size = bk := ⟨_, rfl⟩
    obtain ⟨cp, hcp⟩ : ∃ cp, grownCap w L.length 0 5 = cp := ⟨_, rfl⟩
    rw [hcp, hbk, hN] at hcv
    rw [hbk] at hat
    have HL : Hid (L.length = N ∧ At wc bk 0 L ∧ Up w wc) := ⟨hN, hat, hup⟩
    have hN0 : (0 : Int) ≤ (N : Int) := by omega
    have hNl : (N : Int) ≤ 281474976710656 := by omega
    have m1 : IntKind.u64.wrap 18446744073709551616 = 0 := by decide
    have m2 : IntKind.u64.wrap (-1) = 18446744073709551615 := by decide
    clear h0 hl hat hup hN hcp hbk
    go_enter Tryz.func73, Tryz.ntmps73
    go_wp2_with fail
    go_loopg [101, 13, 12] N (fun g p q us wr => ∃ i n : Nat, g = N - i ∧ p = .int .i64 (i : Int) ∧ q = .int .u64 (n : Int) ∧ us = .bool false ∧ wr = wc ∧ Hid (i ≤ N ∧ n < 18446744073709551616 ∧ ∀ x, x < 18446744073709551616 → L = D16 16 x → n = dvals (L.take i)))
    case atStart => exact ⟨0, 0, rfl, rfl, rfl, rfl, rfl, by omega, by omega, fun _ _ _ => by simp [dvals]⟩
    case round =>
      obtain ⟨i, n, rfl, rfl, rfl, rfl, hw, HI⟩ := hrel
      obtain rfl : wc = wr := hw.symm
      have e0 : (0 : Int) ≤ (i : Int) := by omega
      have en0 : (0 : Int) ≤ (n : Int) := by omega
      have en1 : (n : Int) < 18446744073709551616 := by have := HI.out.2.1; omega
      by_cases hi : i < N
      · have hi1 : (i : Int) < (N : Int) := by omega
        have hi2 : i < L.length := by have := HL.out.1; omega
        have hc := HL.out.2.1 i hi2
        rw [Nat.zero_add] at hc
        obtain ⟨c, hcc⟩ : ∃ c, L[i]'hi2 = c := ⟨_, rfl⟩
        rw [hcc] at hc
        have HC : Hid (i < N ∧ (∀ x, x < 18446744073709551616 → L = D16 16 x → isDig c = true ∧ dvals (L.take (i + 1)) = 16 * dvals (L.take i) + dval c ∧ i ≤ 15 ∧ dvals (L.take i) < 1152921504606846976)) := by
          refine ⟨hi, fun x hx e => ?_⟩
          have hlen : L.length = 16 := by rw [e, D16_length]
          have hdig : ∀ c ∈ L, isDig c = true := by rw [e]; exact D16_dig 16 x
          have h1 : isDig c = true := by rw [← hcc]; exact hdig _ (List.getElem_mem hi2)
          have h2 := dvals_take L i hi2
          rw [hcc] at h2
          have h3 := dvals_lt (L.take i) (fun c hc => hdig c (List.mem_of_mem_take hc))
          have h4 : (L.take i).length = i := by rw [List.length_take]; omega
          rw [h4] at h3
          have h5 : (16 : Nat) ^ i ≤ 16 ^ 15 := Nat.pow_le_pow_right (by omega) (by omega)
          have h6 : (16 : Nat) ^ 15 = 1152921504606846976 := by decide
          exact ⟨h1, h2, by omega, by omega⟩
        have hc0 : (0 : Int) ≤ (c.toNat : Int) := by omega
        have hc1 : (c.toNat : Int) ≤ 255 := by have := c.toNat_lt; omega
        clear hi hcc hi2
        by_cases h95 : c = 95
        · subst h95
          have HE : Hid (∀ x, x < 18446744073709551616 → L = D16 16 x → False) := fun x hx e => absurd (HC.out.2 x hx e).1 (by decide)
          have hlo : ∀ u : World, Calls Tryz.prog 123 #[.int .u8 95] u fun e w' => e = .returned (.int .u8 127) ∧ w' = u := fun u => lower_any 95 u
          clear HC hc0 hc1
          have hc : wc.cell? ⟨bk, i, none⟩ = some (.int .u8 95) := hc
          go_wp2_with fail
          refine (hlo wc).mono ?_
          rintro e w1 ⟨rfl, hw1⟩
          obtain rfl : wc = w1 := hw1.symm
          go_wp2_with fail
          refine (hlo wc).mono ?_
          rintro e w2 ⟨rfl, hw2⟩
          obtain rfl : wc = w2 := hw2.symm
          go_wp2
          go_ret2
          exact ⟨PrsI.err (n := 0) (by omega) (.inr rfl) HE.out, HL.out.2.2⟩
        · have g95 : ((c.toNat : Int) == 95) = false := by
            have : c.toNat ≠ 95 := fun e => h95 (UInt8.toNat_inj.1 e)
            simp; omega
          clear h95
          by_cases q1 : 48 ≤ c.toNat
          · have f1 : (48 : Int) ≤ (c.toNat : Int) := by omega
            by_cases q2 : c.toNat ≤ 57
            · have f2 : (c.toNat : Int) ≤ 57 := by omega
              obtain ⟨D, hD⟩ : ∃ D : Nat, c.toNat - 48 = D := ⟨_, rfl⟩
              have eD : (c.toNat : Int) - 48 = (D : Int) := by omega
              have D0 : (0 : Int) ≤ (D : Int) := by omega
              have D9 : (D : Int) ≤ 9 := by omega
              have HD : Hid (isDig c = true → dval c = D) := fun h => by have := ((low_dig c h).1 (by omega)).2; omega
              clear q1 q2 hD
              by_cases h16 : D < 16
              · have k1 : decide ((16 : Int) ≤ (D : Int)) = false := by simp; omega
                by_cases hn : n < 1152921504606846976
                · have k2 : decide ((1152921504606846976 : Int) ≤ (n : Int)) = false := by simp; omega
                  obtain ⟨P, hP⟩ : ∃ P, 16 * n = P := ⟨_, rfl⟩
                  obtain ⟨Q, hQ⟩ : ∃ Q, P + D = Q := ⟨_, rfl⟩
                  have w1 : IntKind.u64.wrap ((n : Int) * 16) = (P : Int) := by rw [IntKind.wrap_u64]; omega
                  have w2 : IntKind.u64.wrap ((P : Int) + (D : Int)) = (Q : Int) := by rw [IntKind.wrap_u64]; omega
                  have w3 : IntKind.u64.wrap (D : Int) = (D : Int) := by rw [IntKind.wrap_u64]; omega
                  have k3 : ¬ Q < P := by omega
                  have k6 : P ≤ Q := by omega
                  have k5 : (Q : Int) ≤ 18446744073709551615 := by omega
                  have k4 : decide ((18446744073709551615 : Int) < (Q : Int)) = false := by simp; omega
                  have HQ : Hid (16 * n = P ∧ P + D = Q ∧ D < 16 ∧ n < 1152921504606846976) := ⟨hP, hQ, h16, hn⟩
                  clear h16 hn hP hQ
                  go_wp2_with fail
                  go_roundg (N - (i + 1))
                  case measure => have := HC.out.1; omega
                  case rel =>
                    obtain ⟨r1, r2, r3, r4⟩ := HQ.out
                    refine ⟨i + 1, Q, rfl, by go_num, rfl, rfl, rfl, HC.out.1, by omega, fun x hx e => ?_⟩
                    obtain ⟨c1, c2, c3, c4⟩ := HC.out.2 x hx e
                    have r5 := HI.out.2.2 x hx e
                    rw [c2, HD.out c1]
                    omega
                · have k2 : decide ((1152921504606846976 : Int) ≤ (n : Int)) = true := by simp; omega
                  have HE : Hid (∀ x, x < 18446744073709551616 → L = D16 16 x → False) := fun x hx e => by have h1 := HC.out.2 x hx e; have h2 := HI.out.2.2 x hx e; omega
                  clear HD
                  go_wp2
                  go_ret2
                  exact ⟨PrsI.err (n := 18446744073709551615) (by omega) (.inl rfl) HE.out, HL.out.2.2⟩
              · have k1 : decide ((16 : Int) ≤ (D : Int)) = true := by simp; omega
                have HE : Hid (∀ x, x < 18446744073709551616 → L = D16 16 x → False) := fun x hx e => by have h1 := (HC.out.2 x hx e).1; have h2 := HD.out h1; have h3 := (fact_dig c h1).1; omega
                clear HD
                go_wp2
                go_ret2
                exact ⟨PrsI.err (n := 0) (by omega) (.inr rfl) HE.out, HL.out.2.2⟩
            · have f2 : decide ((c.toNat : Int) ≤ 57) = false := by simp; omega
              have HX : Hid (isDig c = true → 57 < c.toNat) := fun h => by have := (low_dig c h).1; omega
              obtain ⟨l, hl⟩ : ∃ l : UInt8, lowC c = l := ⟨_, rfl⟩
              have HLo : Hid (lowC c = l) := hl
              have hlo : ∀ u : World, Calls Tryz.prog 123 #[B c] u fun e w' => e = .returned (B l) ∧ w' = u := fun u => by rw [← hl]; exact lower_any c u
              have l0 : (0 : Int) ≤ (l.toNat : Int) := by omega
              have l1 : (l.toNat : Int) ≤ 255 := by have := l.toNat_lt; omega
              clear hl
              by_cases m1 : 97 ≤ l.toNat
              · have f3 : (97 : Int) ≤ (l.toNat : Int) := by omega
                by_cases m2 : l.toNat ≤ 122
                · have f4 : (l.toNat : Int) ≤ 122 := by omega
                  obtain ⟨E1, hE1⟩ : ∃ E1 : Nat, l.toNat - 97 = E1 := ⟨_, rfl⟩
                  obtain ⟨D, hD⟩ : ∃ D : Nat, E1 + 10 = D := ⟨_, rfl⟩
                  have eE : (l.toNat : Int) - 97 = (E1 : Int) := by omega
                  have eD : (E1 : Int) + 10 = (D : Int) := by omega
                  have E0 : (0 : Int) ≤ (E1 : Int) := by omega
                  have E9 : (E1 : Int) ≤ 25 := by omega
                  have D0 : (0 : Int) ≤ (D : Int) := by omega
                  have D9 : (D : Int) ≤ 35 := by omega
                  have HD : Hid (isDig c = true → dval c = D) := fun h => by have h1 := (low_dig c h).2 (HX.out h); have h2 := HLo.out; rw [h1.1] at h2; subst h2; omega
                  clear m1 m2 hE1 hD
                  by_cases h16 : D < 16
                  · have k1 : decide ((16 : Int) ≤ (D : Int)) = false := by simp; omega
                    by_cases hn : n < 1152921504606846976
                    · have k2 : decide ((1152921504606846976 : Int) ≤ (n : Int)) = false := by simp; omega
                      obtain ⟨P, hP⟩ : ∃ P, 16 * n = P := ⟨_, rfl⟩
                      obtain ⟨Q, hQ⟩ : ∃ Q, P + D = Q := ⟨_, rfl⟩
                      have w1 : IntKind.u64.wrap ((n : Int) * 16) = (P : Int) := by rw [IntKind.wrap_u64]; omega
                      have w2 : IntKind.u64.wrap ((P : Int) + (D : Int)) = (Q : Int) := by rw [IntKind.wrap_u64]; omega
                      have w3 : IntKind.u64.wrap (D : Int) = (D : Int) := by rw [IntKind.wrap_u64]; omega
                      have k3 : ¬ Q < P := by omega
                      have k6 : P ≤ Q := by omega
                      have k5 : (Q : Int) ≤ 18446744073709551615 := by omega
                      have k4 : decide ((18446744073709551615 : Int) < (Q : Int)) = false := by simp; omega
                      have HQ : Hid (16 * n = P ∧ P + D = Q ∧ D < 16 ∧ n < 1152921504606846976) := ⟨hP, hQ, h16, hn⟩
                      clear h16 hn hP hQ
                      go_wp2_with fail
                      refine (hlo wc).mono ?_
                      rintro e w1 ⟨rfl, hw1⟩
                      obtain rfl : wc = w1 := hw1.symm
                      go_wp2_with fail
                      refine (hlo wc).mono ?_
                      rintro e w2 ⟨rfl, hw2⟩
                      obtain rfl : wc = w2 := hw2.symm
                      go_wp2_with fail
                      refine (hlo wc).mono ?_
                      rintro e w3 ⟨rfl, hw3⟩
                      obtain rfl : wc = w3 := hw3.symm
                      go_wp2_with fail
                      go_roundg (N - (i + 1))
                      case measure => have := HC.out.1; omega
                      case rel =>
                        obtain ⟨r1, r2, r3, r4⟩ := HQ.out
                        refine ⟨i + 1, Q, rfl, by go_num, rfl, rfl, rfl, HC.out.1, by omega, fun x hx e => ?_⟩
                        obtain ⟨c1, c2, c3, c4⟩ := HC.out.2 x hx e
                        have r5 := HI.out.2.2 x hx e
                        rw [c2, HD.out c1]
                        omega
                    · have k2 : decide ((1152921504606846976 : Int) ≤ (n : Int)) = true := by simp; omega
                      have HE : Hid (∀ x, x < 18446744073709551616 → L = D16 16 x → False) := fun x hx e => by have h1 := HC.out.2 x hx e; have h2 := HI.out.2.2 x hx e; omega
                      clear HD
                      go_wp2_with fail
                      refine (hlo wc).mono ?_
                      rintro e w1 ⟨rfl, hw1⟩
                      obtain rfl : wc = w1 := hw1.symm
                      go_wp2_with fail
                      refine (hlo wc).mono ?_
                      rintro e w2 ⟨rfl, hw2⟩
                      obtain rfl : wc = w2 := hw2.symm
                      go_wp2_with fail
                      refine (hlo wc).mono ?_
                      rintro e w3 ⟨rfl, hw3⟩
                      obtain rfl : wc = w3 := hw3.symm
                      go_wp2
                      go_ret2
                      exact ⟨PrsI.err (n := 18446744073709551615) (by omega) (.inl rfl) HE.out, HL.out.2.2⟩
                  · have k1 : decide ((16 : Int) ≤ (D : Int)) = true := by simp; omega
                    have HE : Hid (∀ x, x < 18446744073709551616 → L = D16 16 x → False) := fun x hx e => by have h1 := (HC.out.2 x hx e).1; have h2 := HD.out h1; have h3 := (fact_dig c h1).1; omega
                    clear HD
                    go_wp2_with fail
                    refine (hlo wc).mono ?_
                    rintro e w1 ⟨rfl, hw1⟩
                    obtain rfl : wc = w1 := hw1.symm
                    go_wp2_with fail
                    refine (hlo wc).mono ?_
                    rintro e w2 ⟨rfl, hw2⟩
                    obtain rfl : wc = w2 := hw2.symm
                    go_wp2_with fail
                    refine (hlo wc).mono ?_
                    rintro e w3 ⟨rfl, hw3⟩
                    obtain rfl : wc = w3 := hw3.symm
                    go_wp2
                    go_ret2
                    exact ⟨PrsI.err (n := 0) (by omega) (.inr rfl) HE.out, HL.out.2.2⟩
                · have f4 : decide ((l.toNat : Int) ≤ 122) = false := by simp; omega
                  have HE : Hid (∀ x, x < 18446744073709551616 → L = D16 16 x → False) := fun x hx e => by have h0 := (HC.out.2 x hx e).1; have h1 := (low_dig c h0).2 (HX.out h0); have h2 := HLo.out; rw [h1.1] at h2; subst h2; omega
                  clear m1 m2
                  go_wp2_with fail
                  refine (hlo wc).mono ?_
                  rintro e w1 ⟨rfl, hw1⟩
                  obtain rfl : wc = w1 := hw1.symm
                  go_wp2_with fail
                  refine (hlo wc).mono ?_
                  rintro e w2 ⟨rfl, hw2⟩
                  obtain rfl : wc = w2 := hw2.symm
                  go_wp2
                  go_ret2
                  exact ⟨PrsI.err (n := 0) (by omega) (.inr rfl) HE.out, HL.out.2.2⟩
              · have f3 : decide ((97 : Int) ≤ (l.toNat : Int)) = false := by simp; omega
                have HE : Hid (∀ x, x < 18446744073709551616 → L = D16 16 x → False) := fun x hx e => by have h0 := (HC.out.2 x hx e).1; have h1 := (low_dig c h0).2 (HX.out h0); have h2 := HLo.out; rw [h1.1] at h2; subst h2; omega
                clear m1
                go_wp2_with fail
                refine (hlo wc).mono ?_
                rintro e w1 ⟨rfl, hw1⟩
                obtain rfl : wc = w1 := hw1.symm
                go_wp2
                go_ret2
                exact ⟨PrsI.err (n := 0) (by omega) (.inr rfl) HE.out, HL.out.2.2⟩
          · have f1 : decide ((48 : Int) ≤ (c.toNat : Int)) = false := by simp; omega
            have HX : Hid (isDig c = true → 57 < c.toNat) := fun h => by have := (low_dig c h).1; omega
            obtain ⟨l, hl⟩ : ∃ l : UInt8, lowC c = l := ⟨_, rfl⟩
            have HLo : Hid (lowC c = l) := hl
            have hlo : ∀ u : World, Calls Tryz.prog 123 #[B c] u fun e w' => e = .returned (B l) ∧ w' = u := fun u => by rw [← hl]; exact lower_any c u
            have l0 : (0 : Int) ≤ (l.toNat : Int) := by omega
            have l1 : (l.toNat : Int) ≤ 255 := by have := l.toNat_lt; omega
            clear hl
            by_cases m1 : 97 ≤ l.toNat
            · have f3 : (97 : Int) ≤ (l.toNat : Int) := by omega
              by_cases m2 : l.toNat ≤ 122
              · have f4 : (l.toNat : Int) ≤ 122 := by omega
                obtain ⟨E1, hE1⟩ : ∃ E1 : Nat, l.toNat - 97 = E1 := ⟨_, rfl⟩
                obtain ⟨D, hD⟩ : ∃ D : Nat, E1 + 10 = D := ⟨_, rfl⟩
                have eE : (l.toNat : Int) - 97 = (E1 : Int) := by omega
                have eD : (E1 : Int) + 10 = (D : Int) := by omega
                have E0 : (0 : Int) ≤ (E1 : Int) := by omega
                have E9 : (E1 : Int) ≤ 25 := by omega
                have D0 : (0 : Int) ≤ (D : Int) := by omega
                have D9 : (D : Int) ≤ 35 := by omega
                have HD : Hid (isDig c = true → dval c = D) := fun h => by have h1 := (low_dig c h).2 (HX.out h); have h2 := HLo.out; rw [h1.1] at h2; subst h2; omega
                clear m1 m2 hE1 hD
                by_cases h16 : D < 16
                · have k1 : decide ((16 : Int) ≤ (D : Int)) = false := by simp; omega
                  by_cases hn : n < 1152921504606846976
                  · have k2 : decide ((1152921504606846976 : Int) ≤ (n : Int)) = false := by simp; omega
                    obtain ⟨P, hP⟩ : ∃ P, 16 * n = P := ⟨_, rfl⟩
                    obtain ⟨Q, hQ⟩ : ∃ Q, P + D = Q := ⟨_, rfl⟩
                    have w1 : IntKind.u64.wrap ((n : Int) * 16) = (P : Int) := by rw [IntKind.wrap_u64]; omega
                    have w2 : IntKind.u64.wrap ((P : Int) + (D : Int)) = (Q : Int) := by rw [IntKind.wrap_u64]; omega
                    have w3 : IntKind.u64.wrap (D : Int) = (D : Int) := by rw [IntKind.wrap_u64]; omega
                    have k3 : ¬ Q < P := by omega
                    have k6 : P ≤ Q := by omega
                    have k5 : (Q : Int) ≤ 18446744073709551615 := by omega
                    have k4 : decide ((18446744073709551615 : Int) < (Q : Int)) = false := by simp; omega
                    have HQ : Hid (16 * n = P ∧ P + D = Q ∧ D < 16 ∧ n < 1152921504606846976) := ⟨hP, hQ, h16, hn⟩
                    clear h16 hn hP hQ
                    go_wp2_with fail
                    refine (hlo wc).mono ?_
                    rintro e w1 ⟨rfl, hw1⟩
                    obtain rfl : wc = w1 := hw1.symm
                    go_wp2_with fail
                    refine (hlo wc).mono ?_
                    rintro e w2 ⟨rfl, hw2⟩
                    obtain rfl : wc = w2 := hw2.symm
                    go_wp2_with fail
                    refine (hlo wc).mono ?_
                    rintro e w3 ⟨rfl, hw3⟩
                    obtain rfl : wc = w3 := hw3.symm
                    go_wp2_with fail
                    go_roundg (N - (i + 1))
                    case measure => have := HC.out.1; omega
                    case rel =>
                      obtain ⟨r1, r2, r3, r4⟩ := HQ.out
                      refine ⟨i + 1, Q, rfl, by go_num, rfl, rfl, rfl, HC.out.1, by omega, fun x hx e => ?_⟩
                      obtain ⟨c1, c2, c3, c4⟩ := HC.out.2 x hx e
                      have r5 := HI.out.2.2 x hx e
                      rw [c2, HD.out c1]
                      omega
                  · have k2 : decide ((1152921504606846976 : Int) ≤ (n : Int)) = true := by simp; omega
                    have HE : Hid (∀ x, x < 18446744073709551616 → L = D16 16 x → False) := fun x hx e => by have h1 := HC.out.2 x hx e; have h2 := HI.out.2.2 x hx e; omega
                    clear HD
                    go_wp2_with fail
                    refine (hlo wc).mono ?_
                    rintro e w1 ⟨rfl, hw1⟩
                    obtain rfl : wc = w1 := hw1.symm
                    go_wp2_with fail
                    refine (hlo wc).mono ?_
                    rintro e w2 ⟨rfl, hw2⟩
                    obtain rfl : wc = w2 := hw2.symm
                    go_wp2_with fail
                    refine (hlo wc).mono ?_
                    rintro e w3 ⟨rfl, hw3⟩
                    obtain rfl : wc = w3 := hw3.symm
                    go_wp2
                    go_ret2
                    exact ⟨PrsI.err (n := 18446744073709551615) (by omega) (.inl rfl) HE.out, HL.out.2.2⟩
                · have k1 : decide ((16 : Int) ≤ (D : Int)) = true := by simp; omega
                  have HE : Hid (∀ x, x < 18446744073709551616 → L = D16 16 x → False) := fun x hx e => by have h1 := (HC.out.2 x hx e).1; have h2 := HD.out h1; have h3 := (fact_dig c h1).1; omega
                  clear HD
                  go_wp2_with fail
                  refine (hlo wc).mono ?_
                  rintro e w1 ⟨rfl, hw1⟩
                  obtain rfl : wc = w1 := hw1.symm
                  go_wp2_with fail
                  refine (hlo wc).mono ?_
                  rintro e w2 ⟨rfl, hw2⟩
                  obtain rfl : wc = w2 := hw2.symm
                  go_wp2_with fail
                  refine (hlo wc).mono ?_
                  rintro e w3 ⟨rfl, hw3⟩
                  obtain rfl : wc = w3 := hw3.symm
                  go_wp2
                  go_ret2
                  exact ⟨PrsI.err (n := 0) (by omega) (.inr rfl) HE.out, HL.out.2.2⟩
              · have f4 : decide ((l.toNat : Int) ≤ 122) = false := by simp; omega
                have HE : Hid (∀ x, x < 18446744073709551616 → L = D16 16 x → False) := fun x hx e => by have h0 := (HC.out.2 x hx e).1; have h1 := (low_dig c h0).2 (HX.out h0); have h2 := HLo.out; rw [h1.1] at h2; subst h2; omega
                clear m1 m2
                go_wp2_with fail
                refine (hlo wc).mono ?_
                rintro e w1 ⟨rfl, hw1⟩
                obtain rfl : wc = w1 := hw1.symm
                go_wp2_with fail
                refine (hlo wc).mono ?_
                rintro e w2 ⟨rfl, hw2⟩
                obtain rfl : wc = w2 := hw2.symm
                go_wp2
                go_ret2
                exact ⟨PrsI.err (n := 0) (by omega) (.inr rfl) HE.out, HL.out.2.2⟩
            · have f3 : decide ((97 : Int) ≤ (l.toNat : Int)) = false := by simp; omega
              have HE : Hid (∀ x, x < 18446744073709551616 → L = D16 16 x → False) := fun x hx e => by have h0 := (HC.out.2 x hx e).1; have h1 := (low_dig c h0).2 (HX.out h0); have h2 := HLo.out; rw [h1.1] at h2; subst h2; omega
              clear m1
              go_wp2_with fail
              refine (hlo wc).mono ?_
              rintro e w1 ⟨rfl, hw1⟩
              obtain rfl : wc = w1 := hw1.symm
              go_wp2
              go_ret2
              exact ⟨PrsI.err (n := 0) (by omega) (.inr rfl) HE.out, HL.out.2.2⟩
      · have hi1 : ¬ (i : Int) < (N : Int) := by omega
        have HF : Hid (PrsI L (.returned (.tuple #[.int .u64 (n : Int), .nilIface]))) := by
          refine ⟨n, _, rfl, HI.out.2.1, .inl rfl, fun x hx e => ⟨?_, rfl⟩⟩
          have h1 := HI.out.2.2 x hx e
          have h2 := HI.out.1
          have h3 := HL.out.1
          rw [List.take_of_length_le (by omega), e, dvals_D16 16 x (by simpa using hx)] at h1
          exact h1
        clear hi
        go_wp2
        go_ret2
        exact ⟨HF.out, HL.out.2.2⟩
end Go.Proofs.YtkfjkfpodkbkaaaGreatDoor

/- block: the reference's Decode. -/
import Derived.Test.YtoljalolfdnghaaDoorBkRefI
import Derived.Test.YtoljalolfdnghaaDoorBkDec
set_option linter.unusedVariables false
set_option linter.unusedSimpArgs false
namespace Go.Proofs.YtoljalolfdnghaaDoor
open Go Go.RowKit

/-- What the reference's Decode answers. -/
def RDecs (w0 w' : World) (e : Ending) : Except DecE (Nat × List Rec) → Prop
  | .error .short => e = .returned (.tuple #[.int .u64 0, .slice none 0 0, .int .i64 2])
  | .error .form => e = .returned (.tuple #[.int .u64 0, .slice none 0 0, .int .i64 3])
  | .error .sum => e = .returned (.tuple #[.int .u64 0, .slice none 0 0, .int .i64 5])
  | .ok (first, L) => ∃ v vs, e = .returned (.tuple #[.int .u64 (first : Int), v, .int .i64 0]) ∧ Recs w' w0.heap.size v L vs

theorem rDecode_short (base : Nat) (v : Value) (b : List UInt8) (w : World) (hs : Sl base w v b) (h : (b.length : Int) < 512) :
    Calls Tryd.prog 27 #[v] w fun e w' => e = .returned (.tuple #[.int .u64 0, .slice none 0 0, .int .i64 2]) ∧ w' = w := by
  obtain ⟨ao, cap, rfl, _⟩ := hs
  obtain ⟨N, hN⟩ : ∃ N, b.length = N := ⟨_, rfl⟩
  rw [hN] at h ⊢
  clear hN
  go_enter Tryd.func27, Tryd.ntmps27
  go_wp2
  go_ret3
  exact ⟨rfl, rfl⟩
theorem rDecode_long (base : Nat) (v : Value) (b : List UInt8) (w : World) (hs : Sl base w v b) (h : (512 : Int) < (b.length : Int)) :
    Calls Tryd.prog 27 #[v] w fun e w' => e = .returned (.tuple #[.int .u64 0, .slice none 0 0, .int .i64 3]) ∧ w' = w := by
  obtain ⟨ao, cap, rfl, _⟩ := hs
  obtain ⟨N, hN⟩ : ∃ N, b.length = N := ⟨_, rfl⟩
  rw [hN] at h ⊢
  clear hN
  have h2 : ¬ (N : Int) < 512 := by omega
  go_enter Tryd.func27, Tryd.ntmps27
  go_wp2
  go_ret3
  exact ⟨rfl, rfl⟩

theorem four_of {b : List UInt8} (h : b.length = 512) : ∃ c0 c1 c2 c3 : UInt8, b.take 4 = [c0, c1, c2, c3] ∧ b[0]? = some c0 ∧ b[1]? = some c1 ∧ b[2]? = some c2 ∧ b[3]? = some c3 := by
  match b, h with
  | c0 :: c1 :: c2 :: c3 :: r, _ => exact ⟨c0, c1, c2, c3, rfl, rfl, rfl, rfl, rfl⟩
theorem four_cells {base : Nat} {w : World} {v : Value} {b : List UInt8} (hs : Sl base w v b) (h : b.length = 512) : ∃ bk o cap, ∃ c0 c1 c2 c3 : UInt8, v = .slice (some ⟨bk, o, none⟩) 512 cap ∧ b.take 4 = [c0, c1, c2, c3] ∧
    w.cell? ⟨bk, o, none⟩ = some (.int .u8 (c0.toNat : Int)) ∧ w.cell? ⟨bk, o + 1, none⟩ = some (.int .u8 (c1.toNat : Int)) ∧ w.cell? ⟨bk, o + 2, none⟩ = some (.int .u8 (c2.toNat : Int)) ∧ w.cell? ⟨bk, o + 3, none⟩ = some (.int .u8 (c3.toNat : Int)) := by
  obtain ⟨c0, c1, c2, c3, e, h0, h1, h2, h3⟩ := four_of h
  obtain ⟨ao, cap, rfl, _, _, hx⟩ := hs
  obtain ⟨bk, o, rfl, _, ha⟩ := hx (by rintro rfl; simp at h)
  have hh : ∀ i c, b[i]? = some c → w.cell? ⟨bk, o + i, none⟩ = some (.int .u8 (c.toNat : Int)) := fun i c hc => by
    obtain ⟨hi, rfl⟩ := List.getElem?_eq_some_iff.1 hc
    exact ha i hi
  exact ⟨bk, o, cap, c0, c1, c2, c3, by rw [h], e, hh 0 c0 h0, hh 1 c1 h1, hh 2 c2 h2, hh 3 c3 h3⟩
theorem u8_ne {c : UInt8} {n : Nat} (h : c.toNat ≠ n) : ((c.toNat : Int) != (n : Int)) = true := by
  simp only [bne_iff_ne, ne_eq]; omega

theorem rDecode_mark (base : Nat) (v : Value) (b : List UInt8) (w : World) (hs : Sl base w v b) (h : b.length = 512) (hm : b.take 4 ≠ mag) :
    Calls Tryd.prog 27 #[v] w fun e w' => e = .returned (.tuple #[.int .u64 0, .slice none 0 0, .int .i64 3]) ∧ w' = w := by
  obtain ⟨bk, o, cap, c0, c1, c2, c3, rfl, e4, h0, h1, h2, h3⟩ := four_cells hs h
  rw [e4] at hm
  clear hs h e4
  by_cases k0 : c0.toNat = 84
  · rw [k0] at h0
    by_cases k1 : c1.toNat = 66
    · rw [k1] at h1
      by_cases k2 : c2.toNat = 48
      · rw [k2] at h2
        have k3 : c3.toNat ≠ 49 := fun k3 => hm (by
          have e0 : c0 = 84 := UInt8.toNat_inj.1 k0
          have e1 : c1 = 66 := UInt8.toNat_inj.1 k1
          have e2 : c2 = 48 := UInt8.toNat_inj.1 k2
          have e3 : c3 = 49 := UInt8.toNat_inj.1 k3
          rw [e0, e1, e2, e3]; rfl)
        have q : ((c3.toNat : Int) != 49) = true := u8_ne k3
        clear k0 k1 k2 k3 hm
        go_enter Tryd.func27, Tryd.ntmps27
        go_wp2
        go_ret3
        exact ⟨rfl, rfl⟩
      · have q : ((c2.toNat : Int) != 48) = true := u8_ne k2
        clear k0 k1 k2 hm h3
        go_enter Tryd.func27, Tryd.ntmps27
        go_wp2
        go_ret3
        exact ⟨rfl, rfl⟩
    · have q : ((c1.toNat : Int) != 66) = true := u8_ne k1
      clear k0 k1 hm h2 h3
      go_enter Tryd.func27, Tryd.ntmps27
      go_wp2
      go_ret3
      exact ⟨rfl, rfl⟩
  · have q : ((c0.toNat : Int) != 84) = true := u8_ne k0
    clear k0 hm h1 h2 h3
    go_enter Tryd.func27, Tryd.ntmps27
    go_wp2
    go_ret3
    exact ⟨rfl, rfl⟩

set_option maxRecDepth 20000 in
set_option maxHeartbeats 1600000 in
theorem rDecode_full (v : Value) (b : List UInt8) (w : World) (hs : Sl 0 w v b) (h : b.length = 512) (hm : b.take 4 = mag) :
    Calls Tryd.prog 27 #[v] w fun e w' => RDecs w w' e (decB b) ∧ Up w w' := by
  have HS : Hid (Sl 0 w v b ∧ b.length = 512) := ⟨hs, h⟩
  obtain ⟨bk, o, cap, c0, c1, c2, c3, rfl, e4, q0, q1, q2, q3⟩ := four_cells hs h
  rw [e4] at hm
  obtain ⟨rfl, rfl, rfl, rfl⟩ : c0 = 84 ∧ c1 = 66 ∧ c2 = 48 ∧ c3 = 49 := by simpa [mag] using hm
  rw [show (((84 : UInt8).toNat : Nat) : Int) = 84 from rfl] at q0
  rw [show (((66 : UInt8).toNat : Nat) : Int) = 66 from rfl] at q1
  rw [show (((48 : UInt8).toNat : Nat) : Int) = 48 from rfl] at q2
  rw [show (((49 : UInt8).toNat : Nat) : Int) = 49 from rfl] at q3
  obtain ⟨n1, hn1⟩ : ∃ n, lb ((b.drop 4).take 8) = n := ⟨_, rfl⟩
  obtain ⟨n2, hn2⟩ : ∃ n, lb ((b.drop 12).take 2) = n := ⟨_, rfl⟩
  obtain ⟨n3, hn3⟩ : ∃ n, lb ((b.drop 14).take 4) = n := ⟨_, rfl⟩
  have b1 : n1 < 18446744073709551616 := by
    have := lb_lt ((b.drop 4).take 8)
    rw [hn1, show ((b.drop 4).take 8).length = 8 by rw [List.length_take, List.length_drop]; omega] at this
    exact this
  have b2 : n2 < 65536 := by
    have := lb_lt ((b.drop 12).take 2)
    rw [hn2, show ((b.drop 12).take 2).length = 2 by rw [List.length_take, List.length_drop]; omega] at this
    exact this
  have b3 : n3 < 4294967296 := by
    have := lb_lt ((b.drop 14).take 4)
    rw [hn3, show ((b.drop 14).take 4).length = 4 by rw [List.length_take, List.length_drop]; omega] at this
    exact this
  obtain ⟨S, hS⟩ : ∃ S, sumAll (b.take 14) (b.drop 18) = S := ⟨_, rfl⟩
  obtain ⟨D, hD⟩ : ∃ D, decB b = D := ⟨_, rfl⟩
  have Hd : Hid ((n3 ≠ S.toNat → D = .error .sum) ∧ (n3 = S.toNat → ¬ NumOk n1 n2 → D = .error .form) ∧ (n3 = S.toNat → NumOk n1 n2 → parseR n2 (b.drop 18) = none → D = .error .form) ∧ (n3 = S.toNat → NumOk n1 n2 → ∀ rs, parseR n2 (b.drop 18) = some rs → D = .ok (n1, rs))) := by
    have h1 : ¬ b.length < 512 := by omega
    have h2 : ¬ (512 < b.length ∨ b.take 4 ≠ mag) := by rintro (h1 | h1); omega; exact h1 e4
    refine ⟨fun h => ?_, fun h hn => ?_, fun h hn hp => ?_, fun h hn rs hp => ?_⟩
    · rw [← hD, decB, if_neg h1, if_neg h2, hn3, hS, if_pos h]
    · rw [← hD, decB, if_neg h1, if_neg h2, hn3, hS, if_neg (by omega), hn1, hn2, if_pos]
      unfold NumOk at hn; omega
    · rw [← hD, decB, if_neg h1, if_neg h2, hn3, hS, if_neg (by omega), hn1, hn2, if_neg (by unfold NumOk at hn; omega), hp]
    · rw [← hD, decB, if_neg h1, if_neg h2, hn3, hS, if_neg (by omega), hn1, hn2, if_neg (by unfold NumOk at hn; omega), hp]
  rw [hD]
  have N3 := rNumber_any 0 _ b 14 4 w hs (by omega) (by omega) (by omega)
  have HN1 : Hid (∀ u, Up w u → Calls Tryd.prog 45 #[.slice (some ⟨bk, o, none⟩) 512 cap, .int .i64 4, .int .i64 8] u fun e w' => e = .returned (.int .u64 (n1 : Int)) ∧ w' = u) := fun u hu => by
    have := rNumber_any 0 _ b 4 8 u (hs.up hu) (by omega) (by omega) (by omega)
    rw [hn1] at this
    exact this
  have HN2 : Hid (∀ u, Up w u → Calls Tryd.prog 45 #[.slice (some ⟨bk, o, none⟩) 512 cap, .int .i64 12, .int .i64 2] u fun e w' => e = .returned (.int .u64 (n2 : Int)) ∧ w' = u) := fun u hu => by
    have := rNumber_any 0 _ b 12 2 u (hs.up hu) (by omega) (by omega) (by omega)
    rw [hn2] at this
    exact this
  rw [hn3] at N3
  have hsum := rsummed_any 0 _ b w hs h
  rw [hS] at hsum
  have Hb1 : Hid (n1 < 18446744073709551616) := b1
  have hb2 : (n2 : Int) ≤ 65535 := by omega
  have hb20 : (0 : Int) ≤ (n2 : Int) := by omega
  have hb3 : (n3 : Int) < 4294967296 := by omega
  have hb30 : (0 : Int) ≤ (n3 : Int) := by omega
  have hSl : (S.toNat : Int) < 4294967296 := by have := S.isLt; omega
  have hSl0 : (0 : Int) ≤ (S.toNat : Int) := by omega
  clear hs h e4 hm hn1 hn2 hn3 hS hD b1 b2 b3
  go_enter Tryd.func27, Tryd.ntmps27
  go_wp2_with fail
  refine N3.mono ?_
  rintro e w1 ⟨rfl, e1⟩
  obtain rfl : w = w1 := e1.symm
  clear N3
  go_wp2_with fail
  refine hsum.mono ?_
  rintro e w2 ⟨rfl, U2⟩
  clear hsum
  by_cases hq : n3 = S.toNat
  · subst hq
    clear q0 q1 q2 q3
    go_wp2_with fail
    refine (HN1.out w2 U2).mono ?_
    rintro e w3 ⟨rfl, e3⟩
    obtain rfl : w2 = w3 := e3.symm
    go_wp2_with fail
    refine (HN2.out w2 U2).mono ?_
    rintro e w4 ⟨rfl, e4⟩
    obtain rfl : w2 = w4 := e4.symm
    clear HN1 HN2
    by_cases h0 : n2 = 0
    · subst h0
      have hfin : D = .error .form := Hd.out.2.1 trivial (by simp [NumOk])
      subst hfin
      clear Hd
      go_wp2
      go_ret3
      exact ⟨rfl, U2⟩
    · have hz : ((n2 : Int) == 0) = false := by simp; omega
      have HNum := rNumbered_any n1 n2 Hb1.out (by omega) (by omega) w2
      by_cases hn : NumOk n1 n2
      · rw [decide_eq_true hn] at HNum
        have hin := rinside_any _ b n2 w2 (HS.out.1.up U2) HS.out.2 hb2
        clear h0
        go_wp2_with fail
        refine HNum.mono ?_
        rintro e w5 ⟨rfl, e5⟩
        obtain rfl : w2 = w5 := e5.symm
        clear HNum
        go_wp2_with fail
        refine hin.mono ?_
        rintro e w6 ⟨hT, u6⟩
        clear hin
        have U6 := U2.trans u6
        cases hp : parseR n2 (b.drop 18) with
        | none =>
          rw [hp] at hT
          obtain rfl := hT
          have hfin : D = .error .form := Hd.out.2.2.1 trivial hn hp
          subst hfin
          clear Hd hp hn u6
          go_wp2
          go_ret3
          exact ⟨rfl, U6⟩
        | some L =>
          rw [hp] at hT
          obtain ⟨v, vs, rfl, hrec⟩ := hT
          have hrec' := hrec.low U2.size
          have hfin : D = .ok (n1, L) := Hd.out.2.2.2 trivial hn L hp
          subst hfin
          clear Hd hp hn hrec u6
          go_wp2
          go_ret3
          exact ⟨⟨_, vs, rfl, hrec'⟩, U6⟩
      · rw [decide_eq_false hn] at HNum
        have hfin : D = .error .form := Hd.out.2.1 trivial hn
        subst hfin
        clear h0 hn Hd
        go_wp2_with fail
        refine HNum.mono ?_
        rintro e w5 ⟨rfl, e5⟩
        obtain rfl : w2 = w5 := e5.symm
        clear HNum
        go_wp2
        go_ret3
        exact ⟨rfl, U2⟩
  · have hfin : D = .error .sum := Hd.out.1 hq
    have hz : ((n3 : Int) != (S.toNat : Int)) = true := by simp only [bne_iff_ne, ne_eq]; omega
    subst hfin
    clear hq Hd q0 q1 q2 q3
    go_wp2
    go_ret3
    exact ⟨rfl, U2⟩

theorem rDecode_any (v : Value) (b : List UInt8) (w : World) (hs : Sl 0 w v b) :
    Calls Tryd.prog 27 #[v] w fun e w' => RDecs w w' e (decB b) ∧ Up w w' := by
  by_cases h1 : b.length < 512
  · refine (rDecode_short 0 v b w hs (by omega)).mono ?_
    rintro e w' ⟨rfl, rfl⟩
    rw [decB, if_pos h1]
    exact ⟨rfl, Up.refl _⟩
  · by_cases h2 : 512 < b.length
    · refine (rDecode_long 0 v b w hs (by omega)).mono ?_
      rintro e w' ⟨rfl, rfl⟩
      rw [decB, if_neg h1, if_pos (.inl h2)]
      exact ⟨rfl, Up.refl _⟩
    · by_cases h3 : b.take 4 = mag
      · exact rDecode_full v b w hs (by omega) h3
      · refine (rDecode_mark 0 v b w hs (by omega) h3).mono ?_
        rintro e w' ⟨rfl, rfl⟩
        rw [decB, if_neg h1, if_pos (.inr h3)]
        exact ⟨rfl, Up.refl _⟩
end Go.Proofs.YtoljalolfdnghaaDoor

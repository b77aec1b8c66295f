/- pack: what firstNumber answers over every bytes. -/
import Derived.Test.YtpjpjoefmnnpmaaDoorReader
import Derived.Deep.QuietTactic
import Derived.BigQuiet
set_option linter.unusedVariables false
namespace Go.Proofs.YtpjpjoefmnnpmaaDoor
open Go Go.RowKit

/-- The number at the front: the number, how many bytes it has, the fault. i: so many groups are behind, x: their number. -/
def numR (aS aF : Addr) : Nat → Nat → List UInt8 → Nat × Nat × Value
  | _, _, [] => (0, 0, E aS)
  | i, x, c :: r =>
    if (0 < i ∧ c.toNat = 0) ∨ (i = 9 ∧ 1 < c.toNat) then (0, 0, E aF)
    else if c.toNat < 128 then (x + 2 ^ (7 * i) * (c.toNat % 128), i + 1, .nilIface)
    else numR aS aF (i + 1) (x + 2 ^ (7 * i) * (c.toNat % 128)) r

/-- What firstNumber's loop keeps. -/
def NumK (aS aF : Addr) (bs : List UInt8) (k x : Nat) : Prop := k ≤ 9 ∧ x < 2 ^ (7 * k) ∧ numR aS aF 0 0 bs = numR aS aF k x (bs.drop k)

theorem NumK.start (aS aF : Addr) (bs : List UInt8) : NumK aS aF bs 0 0 := ⟨by omega, by simp, rfl⟩
theorem NumK.le {aS aF : Addr} {bs : List UInt8} {k x : Nat} (h : NumK aS aF bs k x) : k ≤ 9 := h.1
theorem NumK.short {aS aF : Addr} {bs : List UInt8} {k x : Nat} (h : NumK aS aF bs k x) (hk : k = bs.length) : numR aS aF 0 0 bs = (0, 0, E aS) := by
  rw [h.2.2, hk, List.drop_length]; rfl
theorem NumK.eq {aS aF : Addr} {bs : List UInt8} {k x : Nat} (h : NumK aS aF bs k x) (hk : k < bs.length) :
    numR aS aF 0 0 bs = if (0 < k ∧ bs[k].toNat = 0) ∨ (k = 9 ∧ 1 < bs[k].toNat) then (0, 0, E aF)
    else if bs[k].toNat < 128 then (x + 2 ^ (7 * k) * (bs[k].toNat % 128), k + 1, .nilIface)
    else numR aS aF (k + 1) (x + 2 ^ (7 * k) * (bs[k].toNat % 128)) (bs.drop (k + 1)) := by
  rw [h.2.2, List.drop_eq_getElem_cons hk]; rfl
theorem NumK.next {aS aF : Addr} {bs : List UInt8} {k x : Nat} (h : NumK aS aF bs k x) (hk : k < bs.length) (h1 : ¬ ((0 < k ∧ bs[k].toNat = 0) ∨ (k = 9 ∧ 1 < bs[k].toNat))) (h2 : ¬ bs[k].toNat < 128) :
    NumK aS aF bs (k + 1) (x + 2 ^ (7 * k) * (bs[k].toNat % 128)) := by
  have he := h.eq hk
  rw [if_neg h1, if_neg h2] at he
  refine ⟨?_, ?_, he⟩
  · have := h.1; omega
  · have hx := h.2.1
    have hc : bs[k].toNat % 128 < 128 := Nat.mod_lt _ (by omega)
    have e : 2 ^ (7 * (k + 1)) = 2 ^ (7 * k) * 128 := by rw [show 7 * (k + 1) = 7 * k + 7 by omega, Nat.pow_add]
    rw [e]
    have : 2 ^ (7 * k) * (bs[k].toNat % 128) ≤ 2 ^ (7 * k) * 127 := Nat.mul_le_mul_left _ (by omega)
    omega

/-- What a round of firstNumber answers, or hands on: one lemma a way. -/
theorem NumK.bad {aS aF : Addr} {bs : List UInt8} {k x : Nat} (h : NumK aS aF bs k x) (hk : k < bs.length) (hb : (0 < k ∧ bs[k].toNat = 0) ∨ (k = 9 ∧ 1 < bs[k].toNat)) : numR aS aF 0 0 bs = (0, 0, E aF) := by
  rw [h.eq hk, if_pos hb]
theorem NumK.last {aS aF : Addr} {bs : List UInt8} {k x : Nat} (h : NumK aS aF bs k x) (hk : k < bs.length) (hb : ¬ ((0 < k ∧ bs[k].toNat = 0) ∨ (k = 9 ∧ 1 < bs[k].toNat))) (h2 : bs[k].toNat < 128) :
    numR aS aF 0 0 bs = (x + 2 ^ (7 * k) * (bs[k].toNat % 128), k + 1, .nilIface) := by
  rw [h.eq hk, if_neg hb, if_pos h2]
theorem NumK.or {aS aF : Addr} {bs : List UInt8} {k x : Nat} (h : NumK aS aF bs k x) (hk : k < bs.length) (h9 : k = 9 → bs[k].toNat ≤ 1) :
    bits .or .u64 (x : Int) (IntKind.u64.wrap (IntKind.u64.wrap ((bs[k].toNat % 128 : Nat) : Int) * 2 ^ (7 * k))) = ((x + 2 ^ (7 * k) * (bs[k].toNat % 128) : Nat) : Int) := by
  have hx := h.2.1
  have hc : bs[k].toNat % 128 < 128 := Nat.mod_lt _ (by omega)
  have h9' := h.1
  have hx2 : x < 2 ^ 63 := Nat.lt_of_lt_of_le hx (Nat.pow_le_pow_right (by omega) (by omega))
  refine or_place _ _ _ hx ?_ (by omega)
  rcases Nat.lt_or_ge k 9 with hk9 | hk9
  · have hp : (2 : Nat) ^ (7 * k) ≤ 2 ^ 56 := Nat.pow_le_pow_right (by omega) (by omega)
    have := Nat.mul_le_mul hp (show bs[k].toNat % 128 ≤ 127 by omega)
    omega
  · obtain rfl : k = 9 := by omega
    have := h9 rfl
    have hm : bs[9].toNat % 128 ≤ 1 := by omega
    have := Nat.mul_le_mul_left (2 ^ (7 * 9)) hm
    omega

theorem and127_fin : ∀ a : Fin 256, bits .and .u8 (a.val : Int) 127 = ((a.val % 128 : Nat) : Int) := by decide +kernel
theorem and127_any (q : Nat) (h : q < 256) : bits .and .u8 (q : Int) 127 = ((q % 128 : Nat) : Int) := and127_fin ⟨q, h⟩

theorem tup3 {a b : Int} {c d : Int} {x y : Value} (h1 : a = b) (h2 : c = d) (h3 : x = y) : Ending.returned (.tuple #[.int .u64 a, .int .i64 c, x]) = .returned (.tuple #[.int .u64 b, .int .i64 d, y]) := by rw [h1, h2, h3]

set_option maxHeartbeats 800000 in
theorem firstNumber_core (base : Nat) (v : Value) (bs : List UInt8) (aS aF : Addr) (w : World) (hs : Sl base w v bs) (hS : Gl w 0 aS) (hF : Gl w 1 aF) (hlen : bs.length ≤ 140737488351232)
    (R : Nat × Nat × Value) (hR : Hid (numR aS aF 0 0 bs = R)) :
    Calls Tryd.prog 65 #[v] w fun e w' => e = .returned (.tuple #[.int .u64 R.1, .int .i64 R.2.1, R.2.2]) ∧ Up w w' := by
  have cS := hS.cell
  have cF := hF.cell
  clear hS hF
  obtain ⟨ao, cap, rfl, _, _, hx⟩ := hs
  go_enter Tryd.func65, Tryd.ntmps65
  go_wp2_with fail
  go_loop [5, 12] (fun x i => ∃ k y : Nat, k ≤ bs.length ∧ i = .int .i64 k ∧ x = .int .u64 y ∧ NumK aS aF bs k y) (fun _ i => bs.length - (intOf i).toNat)
  case atStart => exact ⟨0, 0, Nat.zero_le _, rfl, rfl, NumK.start _ _ _⟩
  case round =>
    obtain ⟨k, y, hk, rfl, rfl, hinv⟩ := hrel
    by_cases hlt : k < bs.length
    · obtain ⟨b, o, rfl, _, ha⟩ := hx (by intro e; subst e; simp at hlt)
      have hc := ha k hlt
      have hn := hinv.next hlt
      have hl := hinv.last hlt
      have hb := hinv.bad hlt
      have ho := hinv.or hlt
      have hk9 := hinv.le
      have hq := bs[k].toNat_lt
      simp only [B] at hc
      clear hx ha hinv
      generalize bs[k].toNat = q at *
      have Hn := show Hid _ from hn
      have Hl := show Hid _ from hl
      have Hb := show Hid _ from hb
      have Ho := show Hid _ from ho
      clear hn hl hb ho
      by_cases h1 : 0 < k ∧ q = 0
      · have hr := hR.out.symm.trans (Hb.out (.inl h1))
        obtain ⟨h1, rfl⟩ := h1
        subst hr
        clear Hn Hl Hb Ho hR
        have g1 : (0 : Int) < (k : Int) := by omega
        clear h1
        go_wp2
        all_goals (go_quiet (fail); go_wp2)
        all_goals (go_ret3; exact ⟨rfl, below_drewN (Up.refl _) _⟩)
      · by_cases h2 : k = 9 ∧ 1 < q
        · have hr := hR.out.symm.trans (Hb.out (.inr h2))
          obtain ⟨rfl, h2⟩ := h2
          subst hr
          have g2 : (1 : Int) < (q : Int) := by omega
          clear Hn Hl Hb Ho hR h1 h2
          go_wp2
          go_quiet (fail)
          go_wp2
          go_ret3
          exact ⟨rfl, below_drewN (Up.refl _) _⟩
        · have hnb : ¬ ((0 < k ∧ q = 0) ∨ (k = 9 ∧ 1 < q)) := by omega
          have ho := Ho.out (by omega)
          have Ho2 := show Hid _ from ho
          clear ho
          by_cases h3 : q < 128
          · have hr := hR.out.symm.trans (Hl.out hnb h3)
            have hm : q % 128 = q := by omega
            rw [hm] at Ho2 hr
            obtain ⟨R1, R2, R3⟩ := R
            simp only [Prod.mk.injEq] at hr
            obtain ⟨hr, rfl, rfl⟩ := hr
            have Hr : Hid (R1 = y + 2 ^ (7 * k) * q) := hr
            clear Hn Hl Hb Ho hR hnb hm hr
            have g3 : decide ((q : Int) < 128) = true := by simp; omega
            rcases (show k = 0 ∨ k = 9 ∨ (0 < k ∧ k < 9) by omega) with rfl | rfl | hk2
            · have G3 : Hid (q < 128) := h3
              clear h1 h2 h3 hk9 hk
              simp only [Nat.add_zero] at hc
              go_wp2
              go_ret3
              refine ⟨tup3 ?_ rfl rfl, Up.refl _⟩
              rw [Hr.out, and127_any q hq]
              have h := Ho2.out
              simp only [Nat.mod_eq_of_lt G3.out]
              simpa using h
            · obtain rfl : q = 1 := by omega
              clear h1 h2 h3 hq hk9 hk
              go_wp2
              go_ret3
              refine ⟨tup3 ?_ rfl rfl, Up.refl _⟩
              rw [Hr.out]
              refine Eq.trans ?_ Ho2.out
              rw [show bits BinOp.and IntKind.u8 1 127 = ((1 : Nat) : Int) from and127_any 1 (by omega), show (2 : Int) ^ (7 * 9) = 9223372036854775808 from by decide]
            · have G3 : Hid (q < 128) := h3
              have Hq : Hid (q < 256) := hq
              have g1 : 0 < k := by omega
              have g2 : ((q : Int) == 0) = false := by simp; omega
              have g4 : ((k : Int) == 9) = false := by simp; omega
              have g5 : (k : Int) ≤ 8 := by omega
              clear h1 h2 h3 hq hk hk2 hk9
              go_wp2
              go_ret3
              refine ⟨tup3 ?_ (by push_cast; rfl) rfl, Up.refl _⟩
              rw [Hr.out, and127_any q Hq.out]
              have h := Ho2.out
              simp only [Nat.mod_eq_of_lt G3.out]
              simpa using h
          · have hn := Hn.out hnb h3
            have Hnn : Hid (NumK aS aF bs (k + 1) (y + 2 ^ (7 * k) * (q % 128))) := hn
            have Hq : Hid (q < 256) := hq
            have g3 : decide ((q : Int) < 128) = false := by simp; omega
            rcases (show k = 0 ∨ (0 < k ∧ k < 9) by omega) with rfl | hk2
            · clear h1 h2 h3 hq hk9 hk Hn Hl Hb Ho hnb hn
              simp only [Nat.add_zero] at hc
              go_wp2
              go_round
              case rel =>
                have h := Ho2.out
                rw [← and127_any q Hq.out] at h
                exact ⟨1, _, by omega, rfl, congrArg (Value.int .u64) (by simpa using h), Hnn.out⟩
              case measure => simp [intOf]; omega
            · have g1 : 0 < k := by omega
              have g2 : ((q : Int) == 0) = false := by simp; omega
              have g4 : ((k : Int) == 9) = false := by simp; omega
              have g5 : (k : Int) ≤ 8 := by omega
              clear h1 h2 h3 hq hk hk2 hk9 Hn Hl Hb Ho hnb hn
              go_wp2
              go_round
              case rel =>
                have h := Ho2.out
                rw [← and127_any q Hq.out] at h
                exact ⟨k + 1, _, by omega, by go_num, congrArg (Value.int .u64) h, Hnn.out⟩
              case measure => simp [intOf]; omega
    · obtain rfl : k = bs.length := by omega
      have hr := hR.out.symm.trans (hinv.short rfl)
      subst hr
      clear hinv hR
      go_wp2
      go_quiet (fail)
      go_wp2
      go_ret3
      exact ⟨rfl, below_drewN (Up.refl _) _⟩
theorem firstNumber_any (base : Nat) (v : Value) (bs : List UInt8) (aS aF : Addr) (w : World) (hs : Sl base w v bs) (hS : Gl w 0 aS) (hF : Gl w 1 aF) (hlen : bs.length ≤ 140737488351232) :
    Calls Tryd.prog 65 #[v] w fun e w' => e = .returned (.tuple #[.int .u64 (numR aS aF 0 0 bs).1, .int .i64 (numR aS aF 0 0 bs).2.1, (numR aS aF 0 0 bs).2.2]) ∧ Up w w' :=
  firstNumber_core base v bs aS aF w hs hS hF hlen _ rfl
end Go.Proofs.YtpjpjoefmnnpmaaDoor

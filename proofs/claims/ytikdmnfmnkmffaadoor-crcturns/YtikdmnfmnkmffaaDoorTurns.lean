/- The law CrcTurns returns true for every bytes, every place and every number, and changes nothing that was there, where the table of half bytes lies in its variable. -/
import Derived.Test.YtikdmnfmnkmffaaDoorZeros
import Derived.Test.YtikdmnfmnkmffaaDoorCopyC
import Derived.Deep.RegionWith
import Derived.Deep.QuietTactic
import Derived.BigQuiet
set_option linter.unusedVariables false
namespace Go.Proofs.YtikdmnfmnkmffaaDoor
open Go Go.RowKit

def word (a b c d : UInt8) : W32 := byt a ^^^ ((byt b ^^^ ((byt c ^^^ (byt d <<< 8)) <<< 8)) <<< 8)
theorem big_bit (a : UInt8) (i : Nat) (h : 8 ≤ i) : a.toNat.testBit i = false :=
  Nat.testBit_lt_two_pow (Nat.lt_of_lt_of_le a.toNat_lt (by
    have : (2:Nat) ^ 8 ≤ 2 ^ i := Nat.pow_le_pow_right (by omega) h
    simpa using this))
theorem word_0 (a b c d : UInt8) (i : Nat) (h : i < 8) : (word a b c d).getLsbD i = a.toNat.testBit i := by
  unfold word
  have e : i < 32 := by omega
  simp only [BitVec.getLsbD_xor, BitVec.getLsbD_shiftLeft, byt_get]
  simp [h]
theorem word_1 (a b c d : UInt8) (i : Nat) (h : i < 8) : (word a b c d).getLsbD (i + 8) = b.toNat.testBit i := by
  unfold word
  have e : i + 8 < 32 := by omega
  have e' : i < 32 := by omega
  have z := big_bit a (i + 8) (by omega)
  have e8 : ¬ i + 8 < 8 := by omega
  simp only [BitVec.getLsbD_xor, BitVec.getLsbD_shiftLeft, byt_get]
  simp [h, e, e8, e', z]
theorem word_2 (a b c d : UInt8) (i : Nat) (h : i < 8) : (word a b c d).getLsbD (i + 16) = c.toNat.testBit i := by
  unfold word
  have e : i + 16 < 32 := by omega
  have e1 : ¬ i + 16 < 8 := by omega
  have e2 : i + 16 - 8 = i + 8 := by omega
  have e3 : i + 8 < 32 := by omega
  have e4 : i < 32 := by omega
  have z := big_bit a (i + 16) (by omega)
  have z2 := big_bit b (i + 8) (by omega)
  have e8 : ¬ i + 8 < 8 := by omega
  simp only [BitVec.getLsbD_xor, BitVec.getLsbD_shiftLeft, byt_get]
  simp [h, e, e8, e1, e2, e3, e4, z, z2]
theorem word_3 (a b c d : UInt8) (i : Nat) (h : i < 8) : (word a b c d).getLsbD (i + 24) = d.toNat.testBit i := by
  unfold word
  have e : i + 24 < 32 := by omega
  have e1 : ¬ i + 24 < 8 := by omega
  have e2 : i + 24 - 8 = i + 16 := by omega
  have e5 : ¬ i + 16 < 8 := by omega
  have e6 : i + 16 - 8 = i + 8 := by omega
  have e7 : i + 16 < 32 := by omega
  have e3 : i + 8 < 32 := by omega
  have z := big_bit a (i + 24) (by omega)
  have z2 := big_bit b (i + 16) (by omega)
  have z3 := big_bit c (i + 8) (by omega)
  have e8 : ¬ i + 8 < 8 := by omega
  simp only [BitVec.getLsbD_xor, BitVec.getLsbD_shiftLeft, byt_get]
  simp [e, e8, e1, e2, e3, e5, e6, e7, z, z2, z3]
theorem byte_ext (a b : UInt8) (h : ∀ i, i < 8 → a.toNat.testBit i = b.toNat.testBit i) : a = b := by
  apply UInt8.toNat_inj.1
  apply Nat.eq_of_testBit_eq
  intro i
  by_cases hi : i < 8
  · exact h i hi
  · rw [big_bit a i (by omega), big_bit b i (by omega)]
theorem word_inj {a b c d a' b' c' d' : UInt8} (h : word a b c d = word a' b' c' d') : a = a' ∧ b = b' ∧ c = c' ∧ d = d' := by
  refine ⟨byte_ext _ _ fun i hi => ?_, byte_ext _ _ fun i hi => ?_, byte_ext _ _ fun i hi => ?_, byte_ext _ _ fun i hi => ?_⟩
  · rw [← word_0 a b c d i hi, h, word_0 _ _ _ _ i hi]
  · rw [← word_1 a b c d i hi, h, word_1 _ _ _ _ i hi]
  · rw [← word_2 a b c d i hi, h, word_2 _ _ _ _ i hi]
  · rw [← word_3 a b c d i hi, h, word_3 _ _ _ _ i hi]

theorem addB_inj (r : List UInt8) (x y : W32) (h : addB x r = addB y r) : x = y := by
  have e := addB_xor r y (x ^^^ y)
  rw [BitVec.xor_comm x y, ← BitVec.xor_assoc, BitVec.xor_self, BitVec.zero_xor, h] at e
  have e2 : stpn (8 * r.length) (y ^^^ x) = 0#32 := by
    have := congrArg (fun z => addB y r ^^^ z) e
    simp only [← BitVec.xor_assoc, BitVec.xor_self, BitVec.zero_xor] at this
    exact this.symm
  exact (xor_eq_zero y x (stpn_ker _ _ e2)).symm
theorem four_inj (x : W32) (p q : List UInt8) (hp : p.length = 4) (hq : q.length = 4) (h : addB x p = addB x q) : p = q := by
  match p, hp, q, hq with
  | [a, b, c, d], _, [a', b', c', d'], _ =>
    rw [addB_four, addB_four] at h
    have h2 := stpn_inj _ _ _ h
    have h3 : word a b c d = word a' b' c' d' := by
      have := congrArg (fun z => x ^^^ z) h2
      simp only [← BitVec.xor_assoc, BitVec.xor_self, BitVec.zero_xor] at this
      simpa [word, BitVec.xor_assoc] using this
    obtain ⟨rfl, rfl, rfl, rfl⟩ := word_inj h3
    rfl
theorem few_inj (x : W32) (p q : List UInt8) (hl : p.length = q.length) (h4 : p.length ≤ 4) (h : addB x p = addB x q) : p = q := by
  have h2 : addB x (p ++ List.replicate (4 - p.length) 0) = addB x (q ++ List.replicate (4 - p.length) 0) := by rw [addB_append, addB_append, h]
  have h3 := four_inj x _ _ (by simp; omega) (by simp; omega) h2
  exact List.append_cancel_right h3
/-- Two lists that differ within four places side by side have unlike sums. -/
theorem sum_four (bs cs : List UInt8) (A : Nat) (hl : cs.length = bs.length) (h : ∀ i (h1 : i < cs.length) (h2 : i < bs.length), (i < A ∨ A + 4 ≤ i) → cs[i] = bs[i]) (hs : sumC cs = sumC bs) : cs = bs := by
  have split : ∀ l : List UInt8, l = l.take A ++ ((l.drop A).take 4 ++ l.drop (A + 4)) := fun l => by
    have h1 := List.take_append_drop A l
    have h2 := List.take_append_drop 4 (l.drop A)
    rw [List.drop_drop] at h2
    rw [h2, h1]
  have e1 : cs.take A = bs.take A := by
    apply List.ext_getElem (by simp [hl])
    intro i h1 h2
    simp only [List.getElem_take]
    simp at h1 h2
    exact h i (by omega) (by omega) (.inl (by omega))
  have e3 : cs.drop (A + 4) = bs.drop (A + 4) := by
    apply List.ext_getElem (by simp [hl])
    intro i h1 h2
    simp only [List.getElem_drop]
    simp at h1 h2
    exact h _ (by omega) (by omega) (.inr (by omega))
  have hu : addB (~~~ 0#32) cs = addB (~~~ 0#32) bs := by
    have := congrArg (fun z => ~~~ z) hs
    simpa [sumC, addC] using this
  rw [split cs, split bs, e1, e3, addB_append, addB_append, addB_append, addB_append] at hu
  have h4 := addB_inj _ _ _ hu
  have h5 := few_inj _ _ _ (by simp [hl]) (by simp; omega) h4
  rw [split cs, split bs, e1, e3, h5]

/-- What the loop keeps of the copy: outside the places that are done it is the list itself; same: is it the list. -/
def Part (bs cs : List UInt8) (A k : Nat) (same : Bool) : Prop :=
  cs.length = bs.length ∧ (∀ i (h1 : i < cs.length) (h2 : i < bs.length), (i < A ∨ A + k ≤ i) → cs[i] = bs[i]) ∧ same = decide (cs = bs)
theorem Part.start (bs : List UInt8) (A : Nat) : Part bs bs A 0 true := ⟨rfl, fun _ _ _ _ => rfl, by simp⟩
theorem Part.next {bs cs : List UInt8} {A k : Nat} {same : Bool} (h : Part bs cs A k same) (hk : A + k < bs.length) (c : UInt8) :
    Part bs (cs.set (A + k) c) A (k + 1) (same && decide (c = bs[A + k])) := by
  obtain ⟨h1, h2, h3⟩ := h
  have hold := h2 (A + k) (by omega) hk (.inr (Nat.le_refl _))
  refine ⟨by simp [h1], fun i q1 q2 hi => ?_, ?_⟩
  · rw [List.getElem_set]
    split
    · omega
    · exact h2 i (by simpa using q1) q2 (by omega)
  · rw [h3]
    rw [Bool.eq_iff_iff]
    simp only [Bool.and_eq_true, decide_eq_true_eq]
    constructor
    · rintro ⟨rfl, rfl⟩
      simp
    · intro e
      have hc : c = bs[A + k] := by
        have : (cs.set (A + k) c)[A + k]? = bs[A + k]? := by rw [e]
        rw [List.getElem?_set, if_pos rfl, if_pos (by omega), List.getElem?_eq_getElem hk] at this
        exact Option.some.inj this
      refine ⟨?_, hc⟩
      have : cs.set (A + k) cs[A + k] = cs := List.set_getElem_self _
      rw [← this, hold, ← hc, e]
theorem Part.sums {bs cs : List UInt8} {A k : Nat} {same : Bool} (h : Part bs cs A k same) (hk : k ≤ 4) (hs : same = false) : sumC cs ≠ sumC bs := by
  obtain ⟨h1, h2, h3⟩ := h
  intro e
  have := sum_four bs cs A h1 (fun i q1 q2 hi => h2 i q1 q2 (by omega)) e
  rw [h3] at hs
  simp [this] at hs

theorem turn_u8 (old : UInt8) (x : W32) (m : Nat) : bits .xor .u8 (old.toNat : Int) ((x.toNat : Int) / 2 ^ m % 256) = ((old ^^^ UInt8.ofNat (x.toNat / 2 ^ m)).toNat : Int) := by
  have e : (x.toNat : Int) / 2 ^ m % 256 = ((UInt8.ofNat (x.toNat / 2 ^ m)).toNat : Int) := by
    rw [UInt8.toNat_ofNat']
    simp
  rw [e, u8_xor_nat _ _ old.toNat_lt (UInt8.toNat_lt _), UInt8.toNat_xor]

set_option maxRecDepth 20000 in
set_option maxHeartbeats 1600000 in
theorem CrcTurns_any (v : Value) (bs : List UInt8) (A : Int) (x : W32) (hl : bs.length ≤ 140737488355327) (hA : A ≤ 9223372036854775807) (w : World) (ht : Tb w) (hs : Sl 0 w v bs) :
    Calls Tryd.prog 5 #[v, .int .i64 A, U x] w fun e w' => e = .returned (.bool true) ∧ Up w w' := by
  have Hs : Hid (Sl 0 w v bs) := hs
  obtain ⟨ao, cap, rfl, _⟩ := hs
  go_enter Tryd.func5, Tryd.ntmps5
  go_wp2_with fail
  refine (awake_any _ ht).mono ?_
  rintro e w1 ⟨rfl, hu⟩
  by_cases hneg : A < 0
  · go_wp2
    go_ret
    exact ⟨rfl, hu⟩
  by_cases hbig : (bs.length : Int) ≤ A
  · go_wp2
    go_ret
    exact ⟨rfl, hu⟩
  obtain ⟨n, rfl⟩ := Int.eq_ofNat_of_zero_le (show 0 ≤ A by omega)
  have hbn : ¬ (bs.length ≤ n) := by omega
  clear hneg hbig
  have hs1 := Sl.up Hs.out hu
  obtain ⟨w2, hcp, ho2, hu2⟩ := copy_head _ bs bs.length w1 hs1 (Nat.le_refl _) (by unfold maxLen; omega)
  have hmk := make_u8 bs.length (by omega)
  have ht2 := ht.up (hu.trans hu2)
  have hs2 := hs1.up hu2
  have U2 := hu.trans hu2
  have Hd : Hid (Part bs bs n 0 true) := Part.start bs n
  have Ho2 : Hid (Own w2 5 w1.heap.size (.slice (some ⟨w1.heap.size, 0, none⟩) bs.length bs.length) bs) := ho2
  clear ho2
  go_wp2
  go_loopg [9, 10] 4 (fun g sm j wr => ∃ (k : Nat) (cs : List UInt8) (same : Bool), k ≤ 4 ∧ g = 4 - k ∧ j = .int .i64 k ∧ sm = .bool same ∧ Hid (Own wr 5 w1.heap.size (.slice (some ⟨w1.heap.size, 0, none⟩) bs.length bs.length) cs) ∧ Hid (Part bs cs n k same) ∧ Up w1 wr)
  case atStart => exact ⟨0, bs, true, by omega, by omega, rfl, rfl, Ho2, Hd, hu2⟩
  case round =>
    obtain ⟨k, cs, same, hk, rfl, rfl, rfl, hown, hpart, hup⟩ := hrel
    have hs3 : Sl 0 wr (.slice ao bs.length cap) bs := hs1.up hup
    have htr := ht.up (hu.trans hup)
    have U3 := hu.trans hup
    by_cases hk4 : k = 4
    · subst hk4
      have k1 := Sum_any 0 _ bs wr htr hs3 (by omega)
      have k2 := Sum_any _ _ cs wr htr hown.out.sl (by have := hpart.out.1; omega)
      cases same with
      | true =>
        go_wp2_with fail
        refine k1.mono ?_
        rintro e w5 ⟨rfl, rfl⟩
        go_wp2
        go_ret
        exact ⟨rfl, U3⟩
      | false =>
        have hne := hpart.out.sums hk rfl
        have hneI : ¬ ((sumC cs).toNat : Int) = ((sumC bs).toNat : Int) := fun e => hne (BitVec.eq_of_toNat_eq (by omega))
        clear hne
        generalize sumC cs = sc at k2 hneI
        generalize sumC bs = sb at k1 hneI
        go_wp2_with fail
        refine k1.mono ?_
        rintro e w5 ⟨rfl, rfl⟩
        go_wp2_with fail
        refine k2.mono ?_
        rintro e w6 ⟨rfl, rfl⟩
        clear k1 k2
        go_wp2
        go_ret
        exact ⟨congrArg (fun z => Ending.returned (.bool z)) (bne_iff_ne.2 hneI), U3⟩
    · by_cases hlen : n + k < bs.length
      · obtain ⟨ao', cap', e1, _, _, hx⟩ := hs3
        simp only [Value.slice.injEq] at e1
        obtain ⟨rfl, _, rfl⟩ := e1
        obtain ⟨b, o, rfl, _, hat⟩ := hx (by rintro rfl; simp at hlen)
        have hat1 : At w1 b o bs := by
          obtain ⟨a7, c7, e7, _, _, hx7⟩ := hs1
          obtain ⟨b7, o7, e8, _, hat7⟩ := hx7 (by rintro rfl; simp at hlen)
          simp only [Value.slice.injEq] at e7
          rw [← e7.1] at e8
          simp only [Option.some.injEq, Addr.mk.injEq, and_true] at e8
          obtain ⟨rfl, rfl⟩ := e8
          exact hat7
        have hcb := hat (n + k) hlen
        have hlc : cs.length = bs.length := hpart.out.1
        have hkc : n + k < cs.length := by omega
        obtain ⟨ac, cc, e2, _, _, hxc⟩ := hown.out.sl
        obtain ⟨bc, oc, e3, _, hatc⟩ := hxc (by intro e; rw [e] at hlc; simp at hlc; omega)
        simp only [Value.slice.injEq] at e2
        rw [← e2.1] at e3
        simp only [Option.some.injEq, Addr.mk.injEq, and_true] at e3
        obtain ⟨rfl, rfl⟩ := e3
        have hcc := hatc (n + k) hkc
        rw [Nat.zero_add] at hcc
        have hfz := hown.out.not_frozen (t := n + k)
        have hk3 : (k : Int) < 4 := by omega
        have hlenI : (n : Int) + (k : Int) < (bs.length : Int) := by omega
        clear hx hat hxc hatc e2
        generalize cs[n + k] = old at hcc
        generalize hob : bs[n + k] = ob at hcb
        have Hob : Hid (bs[n + k] = ob) := hob
        have Hlen : Hid (n + k < bs.length) := hlen
        clear hob hk4
        have hxr := turn_u8 old x (8 * k)
        generalize hnw : old ^^^ UInt8.ofNat (x.toNat / 2 ^ (8 * k)) = nw at hxr
        have hnext := hpart.out.next hlen nw
        rw [Hob.out] at hnext
        have Hnext : Hid (Part bs (cs.set (n + k) nw) n (k + 1) (same && decide (nw = ob))) := hnext
        have hset := hown.out.set (n + k) hkc nw
        have hUp : Up w1 (wr.setCell ⟨w1.heap.size, n + k, none⟩ (B nw)) := Below.setCell hup (Nat.le_refl _) _
        have hbl : b < w1.heap.size := World.block_lt_of_cell? w1 _ (hat1 (n + k) hlen)
        have hb5 : (wr.setCell ⟨w1.heap.size, n + k, none⟩ (B nw)).cell? ⟨b, o + (n + k), none⟩ = some (B ob) := by
          rw [hUp.cell hbl]
          have := hat1 (n + k) hlen
          rw [Hob.out] at this
          exact this
        have hc5 : (wr.setCell ⟨w1.heap.size, n + k, none⟩ (B nw)).cell? ⟨w1.heap.size, n + k, none⟩ = some (B nw) := by
          obtain ⟨a6, c6, e6, _, _, hx6⟩ := hset.sl
          obtain ⟨b6, o6, e7, _, hat6⟩ := hx6 (by intro e; rw [List.set_eq_nil_iff] at e; rw [e] at hlc; simp at hlc; omega)
          simp only [Value.slice.injEq] at e6
          rw [← e6.1] at e7
          simp only [Option.some.injEq, Addr.mk.injEq, and_true] at e7
          obtain ⟨rfl, rfl⟩ := e7
          have := hat6 (n + k) (by simp; omega)
          rw [Nat.zero_add, List.getElem_set_self] at this
          exact this
        have Hset : Hid (Own (wr.setCell ⟨w1.heap.size, n + k, none⟩ (B nw)) 5 w1.heap.size (.slice (some ⟨w1.heap.size, 0, none⟩) bs.length bs.length) (cs.set (n + k) nw)) := hset
        clear hnw hnext hset hat1
        go_wp2_with fail
        clear hcb hcc hfz hxr
        generalize wr.setCell ⟨w1.heap.size, n + k, none⟩ (B nw) = w5 at Hset hUp hb5 hc5 ⊢
        have Hs5 : Hid (∀ m, Own (w5.drewN m) 5 w1.heap.size (.slice (some ⟨w1.heap.size, 0, none⟩) bs.length bs.length) (cs.set (n + k) nw) ∧ Up w1 (w5.drewN m)) := fun m => ⟨ownsRow_up Hset.out (Up.drewN _ m), hUp.trans (Up.drewN _ m)⟩
        clear Hset
        cases same with
        | true =>
          by_cases hnb : nw = ob
          · subst hnb
            go_wp2_with fail
            go_quiet (fail)
            go_wp2
            go_roundg (4 - (k + 1))
            case measure => omega
            case rel => exact ⟨k + 1, _, _, by omega, rfl, by go_num, by simp, (Hs5.out _).1, Hnext, (Hs5.out _).2⟩
          · have hne : ¬ (nw.toNat : Int) = (ob.toNat : Int) := by
              intro e
              apply hnb
              exact UInt8.toNat_inj.1 (by omega)
            rw [decide_eq_false hnb] at Hnext
            go_wp2_with fail
            go_quiet (fail)
            go_wp2
            go_roundg (4 - (k + 1))
            case measure => omega
            case rel => exact ⟨k + 1, _, _, by omega, rfl, by go_num, by simp; exact hne, (Hs5.out _).1, Hnext, (Hs5.out _).2⟩
        | false =>
          go_wp2_with fail
          go_quiet (fail)
          go_wp2
          go_roundg (4 - (k + 1))
          case measure => omega
          case rel => exact ⟨k + 1, _, _, by omega, rfl, by go_num, by simp, (Hs5.out _).1, Hnext, (Hs5.out _).2⟩
      · have k1 := Sum_any 0 _ bs wr htr hs3 (by omega)
        have k2 := Sum_any _ _ cs wr htr hown.out.sl (by have := hpart.out.1; omega)
        cases same with
        | true =>
          go_wp2_with fail
          refine k1.mono ?_
          rintro e w5 ⟨rfl, rfl⟩
          go_wp2
          go_ret
          exact ⟨rfl, U3⟩
        | false =>
          have hne := hpart.out.sums hk rfl
          have hneI : ¬ ((sumC cs).toNat : Int) = ((sumC bs).toNat : Int) := fun e => hne (BitVec.eq_of_toNat_eq (by omega))
          clear hne
          generalize sumC cs = sc at k2 hneI
          generalize sumC bs = sb at k1 hneI
          go_wp2_with fail
          refine k1.mono ?_
          rintro e w5 ⟨rfl, rfl⟩
          go_wp2_with fail
          refine k2.mono ?_
          rintro e w6 ⟨rfl, rfl⟩
          clear k1 k2
          go_wp2
          go_ret
          exact ⟨congrArg (fun z => Ending.returned (.bool z)) (bne_iff_ne.2 hneI), U3⟩
end Go.Proofs.YtikdmnfmnkmffaaDoor

/- table: the order of texts as the reference and the law reckon it, byte by byte. Own work. -/
import Derived.Test.YtldmiieepikjnaaChecked
import Derived.Test.YtldmiieepikjnaaTbTree
import Derived.Test.YtldmiieepikjnaaDkLib
import Derived.BigQuiet
import Derived.Deep.LoopGhost
set_option linter.unusedVariables false
set_option linter.unusedSimpArgs false
namespace Go.Proofs.Ytldmiieepikjnaa
open Go Go.RowKit

theorem bless_drop : ∀ (i : Nat) (a b : List UInt8), i ≤ a.length → i ≤ b.length → a.take i = b.take i → Op.bytesLess a b = Op.bytesLess (a.drop i) (b.drop i) := by
  intro i
  induction i with
  | zero => intro a b _ _ _; rfl
  | succ i ih =>
    intro a b ha hb h
    match a, b, ha, hb, h with
    | x :: a, y :: b, ha, hb, h =>
      simp only [List.take_succ_cons, List.cons.injEq] at h
      obtain ⟨rfl, h⟩ := h
      rw [List.drop_succ_cons, List.drop_succ_cons, ← ih a b (by simpa using ha) (by simpa using hb) h]
      have : ¬ x < x := UInt8.lt_irrefl x
      simp [Op.bytesLess, this]
theorem bless_end1 (a b : List UInt8) (h : a.length ≤ b.length) (e : a = b.take a.length) : Op.bytesLess a b = decide (a.length < b.length) := by
  rw [bless_drop a.length a b (Nat.le_refl _) h (by rw [List.take_length]; exact e), List.drop_length]
  cases hd : b.drop a.length with
  | nil =>
    have := congrArg List.length hd
    simp at this
    rw [decide_eq_false (by omega)]; rfl
  | cons y r =>
    have := congrArg List.length hd
    simp at this
    rw [decide_eq_true (by omega)]; rfl
theorem bless_end2 (a b : List UInt8) (h : b.length ≤ a.length) (e : a.take b.length = b) : Op.bytesLess a b = decide (a.length < b.length) := by
  rw [bless_drop b.length a b h (Nat.le_refl _) (by rw [List.take_length]; exact e), List.drop_length, decide_eq_false (by omega)]
  cases a.drop b.length <;> rfl
theorem bless_at (i : Nat) (a b : List UInt8) (ha : i < a.length) (hb : i < b.length) (e : a.take i = b.take i) (hne : a[i] ≠ b[i]) : Op.bytesLess a b = decide (a[i].toNat < b[i].toNat) := by
  rw [bless_drop i a b (by omega) (by omega) e, List.drop_eq_getElem_cons ha, List.drop_eq_getElem_cons hb]
  by_cases h : a[i] < b[i]
  · rw [decide_eq_true (UInt8.lt_iff_toNat_lt.1 h)]; simp [Op.bytesLess, h]
  · rw [decide_eq_false (fun k => h (UInt8.lt_iff_toNat_lt.2 k))]; simp [Op.bytesLess, h, hne]

/-- The byte of a text at a place. -/
theorem byte_at (s : ByteArray) (i : Nat) (h : i < s.data.toList.length) (w : World) : (Instr.index 9 (.string s) (.int .i64 (i : Int))).run Try.prog w = .ok (.int .u8 (s.data.toList[i].toNat : Int)) w := by
  have hs : s.size = s.data.toList.length := rfl
  rw [run_index_string w 9 s .i64 (i : Int) Try.underlying9, dif_pos ⟨by omega, by omega⟩]
  simp
  rfl

set_option maxHeartbeats 1000000 in
theorem Less_any (a b : ByteArray) (w : World) (ha : a.size ≤ 281474976710656) (hb : b.size ≤ 281474976710656) : Calls Try.prog 66 #[.string a, .string b] w fun e w' => e = .returned (.bool (kl a b)) ∧ Up w w' := by
  have hsa : a.size = a.data.toList.length := rfl
  have hsb : b.size = b.data.toList.length := rfl
  obtain ⟨r, hr⟩ : ∃ r, kl a b = r := ⟨_, rfl⟩
  have HR : Hid (Op.bytesLess a.data.toList b.data.toList = r ∧ a.size = a.data.toList.length ∧ b.size = b.data.toList.length) := ⟨by rw [← hr, kl, Lib.toList_data, Lib.toList_data], hsa, hsb⟩
  rw [hr]
  have ha' : (a.size : Int) ≤ 281474976710656 := by omega
  have hb' : (b.size : Int) ≤ 281474976710656 := by omega
  clear hr hsa hsb ha hb
  go_enter Try.func66, Try.ntmps66
  go_wp2
  go_loopg [5] a.size (fun g s wr => Up w wr ∧ ∃ i : Nat, s = .int .i64 (i : Int) ∧ Hid (g = a.size - i ∧ i ≤ a.size ∧ i ≤ b.size ∧ a.data.toList.take i = b.data.toList.take i))
  case atStart => exact ⟨Up.refl w, 0, rfl, rfl, by omega, by omega, rfl⟩
  case round =>
    obtain ⟨hu, i, rfl, hH⟩ := hrel
    by_cases h1 : (i : Int) < (a.size : Int)
    · by_cases h2 : (i : Int) < (b.size : Int)
      · have hla : i < a.data.toList.length := by have := HR.out.2.1; omega
        have hlb : i < b.data.toList.length := by have := HR.out.2.2; omega
        have Bl : Hid (∀ hne : a.data.toList[i] ≠ b.data.toList[i], decide (a.data.toList[i].toNat < b.data.toList[i].toNat) = r) := fun hne => by rw [← bless_at i _ _ hla hlb hH.out.2.2.2 hne]; exact HR.out.1
        have ia := byte_at a i hla
        have ib := byte_at b i hlb
        obtain ⟨x, hx⟩ : ∃ x, a.data.toList[i] = x := ⟨_, rfl⟩
        obtain ⟨y, hy⟩ : ∃ y, b.data.toList[i] = y := ⟨_, rfl⟩
        have Ht : Hid (x = y → a.data.toList.take (i + 1) = b.data.toList.take (i + 1)) := fun e => by
          rw [List.take_add_one, List.take_add_one, hH.out.2.2.2, List.getElem?_eq_getElem hla, List.getElem?_eq_getElem hlb, hx, hy, e]
        rw [hx] at ia
        rw [hy] at ib
        simp only [hx, hy] at Bl
        clear hx hy hla hlb
        by_cases hxy : x = y
        · subst hxy
          have hw : IntKind.i64.wrap ((i : Int) + 1) = ((i + 1 : Nat) : Int) := by rw [IntKind.wrap_i64]; omega
          clear Bl
          go_wp2
          go_quiet (fail)
          have u2 := hu.trans (up_drewN wr nq)
          generalize wr.drewN nq = w0 at u2 ⊢
          go_wp2
          go_roundg (a.size - (i + 1))
          case measure => have := hH.out.1; omega
          case rel => exact ⟨u2, i + 1, by simp, by rfl, by omega, by omega, Ht.out trivial⟩
        · have hne : ((x.toNat : Int) != (y.toNat : Int)) = true := by
            simp
            intro e
            exact hxy (UInt8.toNat_inj.1 (by omega))
          have hB : Hid (decide (x.toNat < y.toNat) = r) := Bl.out hxy
          clear Bl Ht hH
          go_wp2
          go_quiet (fail)
          have u2 := hu.trans (up_drewN wr nq)
          generalize wr.drewN nq = w0 at u2 ⊢
          go_wp2
          go_quiet (fail)
          go_wp2
          go_ret
          exact ⟨by rw [← hB.out]; simp, u2.trans (up_drewN _ _)⟩
      · have hR : Hid (decide (a.size < b.size) = r) := by
          obtain ⟨_, h3, h4, h5⟩ := hH.out
          obtain ⟨k1, k2, k3⟩ := HR.out
          have hb2 : b.data.toList.take i = b.data.toList := List.take_of_length_le (by omega)
          rw [hb2] at h5
          have hi : i = b.data.toList.length := by omega
          rw [hi] at h5
          show _ = _
          rw [← k1, bless_end2 _ _ (by omega) h5, k2, k3]
        clear HR hH
        go_wp2
        go_ret
        exact ⟨by rw [← hR.out]; simp, hu⟩
    · have hR : Hid (decide (a.size < b.size) = r) := by
        obtain ⟨_, h3, h4, h5⟩ := hH.out
        obtain ⟨k1, k2, k3⟩ := HR.out
        have hb2 : a.data.toList.take i = a.data.toList := List.take_of_length_le (by omega)
        rw [hb2] at h5
        have hi : i = a.data.toList.length := by omega
        rw [hi] at h5
        show _ = _
        rw [← k1, bless_end1 _ _ (by omega) h5, k2, k3]
      clear HR hH
      go_wp2
      go_ret
      exact ⟨by rw [← hR.out]; simp, hu⟩
set_option maxHeartbeats 1000000 in
theorem behind_any (a b : ByteArray) (w : World) (ha : a.size ≤ 281474976710656) (hb : b.size ≤ 281474976710656) : Calls Try.prog 43 #[.string a, .string b] w fun e w' => e = .returned (.bool (kl a b)) ∧ Up w w' := by
  have hsa : a.size = a.data.toList.length := rfl
  have hsb : b.size = b.data.toList.length := rfl
  obtain ⟨r, hr⟩ : ∃ r, kl a b = r := ⟨_, rfl⟩
  have HR : Hid (Op.bytesLess a.data.toList b.data.toList = r ∧ a.size = a.data.toList.length ∧ b.size = b.data.toList.length) := ⟨by rw [← hr, kl, Lib.toList_data, Lib.toList_data], hsa, hsb⟩
  rw [hr]
  have ha' : (a.size : Int) ≤ 281474976710656 := by omega
  have hb' : (b.size : Int) ≤ 281474976710656 := by omega
  clear hr hsa hsb ha hb
  go_enter Try.func43, Try.ntmps43
  go_wp2
  go_loopg [5] a.size (fun g s wr => Up w wr ∧ ∃ i : Nat, s = .int .i64 (i : Int) ∧ Hid (g = a.size - i ∧ i ≤ a.size ∧ i ≤ b.size ∧ a.data.toList.take i = b.data.toList.take i))
  case atStart => exact ⟨Up.refl w, 0, rfl, rfl, by omega, by omega, rfl⟩
  case round =>
    obtain ⟨hu, i, rfl, hH⟩ := hrel
    by_cases h1 : (i : Int) < (a.size : Int)
    · by_cases h2 : (i : Int) < (b.size : Int)
      · have hla : i < a.data.toList.length := by have := HR.out.2.1; omega
        have hlb : i < b.data.toList.length := by have := HR.out.2.2; omega
        have Bl : Hid (∀ hne : a.data.toList[i] ≠ b.data.toList[i], decide (a.data.toList[i].toNat < b.data.toList[i].toNat) = r) := fun hne => by rw [← bless_at i _ _ hla hlb hH.out.2.2.2 hne]; exact HR.out.1
        have ia := byte_at a i hla
        have ib := byte_at b i hlb
        obtain ⟨x, hx⟩ : ∃ x, a.data.toList[i] = x := ⟨_, rfl⟩
        obtain ⟨y, hy⟩ : ∃ y, b.data.toList[i] = y := ⟨_, rfl⟩
        have Ht : Hid (x = y → a.data.toList.take (i + 1) = b.data.toList.take (i + 1)) := fun e => by
          rw [List.take_add_one, List.take_add_one, hH.out.2.2.2, List.getElem?_eq_getElem hla, List.getElem?_eq_getElem hlb, hx, hy, e]
        rw [hx] at ia
        rw [hy] at ib
        simp only [hx, hy] at Bl
        clear hx hy hla hlb
        by_cases hxy : x = y
        · subst hxy
          have hw : IntKind.i64.wrap ((i : Int) + 1) = ((i + 1 : Nat) : Int) := by rw [IntKind.wrap_i64]; omega
          clear Bl
          go_wp2
          go_quiet (fail)
          have u2 := hu.trans (up_drewN wr nq)
          generalize wr.drewN nq = w0 at u2 ⊢
          go_wp2
          go_roundg (a.size - (i + 1))
          case measure => have := hH.out.1; omega
          case rel => exact ⟨u2, i + 1, by simp, by rfl, by omega, by omega, Ht.out trivial⟩
        · have hne : ((x.toNat : Int) != (y.toNat : Int)) = true := by
            simp
            intro e
            exact hxy (UInt8.toNat_inj.1 (by omega))
          have hB : Hid (decide (x.toNat < y.toNat) = r) := Bl.out hxy
          clear Bl Ht hH
          go_wp2
          go_quiet (fail)
          have u2 := hu.trans (up_drewN wr nq)
          generalize wr.drewN nq = w0 at u2 ⊢
          go_wp2
          go_quiet (fail)
          go_wp2
          go_ret
          exact ⟨by rw [← hB.out]; simp, u2.trans (up_drewN _ _)⟩
      · have hR : Hid (decide (a.size < b.size) = r) := by
          obtain ⟨_, h3, h4, h5⟩ := hH.out
          obtain ⟨k1, k2, k3⟩ := HR.out
          have hb2 : b.data.toList.take i = b.data.toList := List.take_of_length_le (by omega)
          rw [hb2] at h5
          have hi : i = b.data.toList.length := by omega
          rw [hi] at h5
          show _ = _
          rw [← k1, bless_end2 _ _ (by omega) h5, k2, k3]
        clear HR hH
        go_wp2
        go_ret
        exact ⟨by rw [← hR.out]; simp, hu⟩
    · have hR : Hid (decide (a.size < b.size) = r) := by
        obtain ⟨_, h3, h4, h5⟩ := hH.out
        obtain ⟨k1, k2, k3⟩ := HR.out
        have hb2 : a.data.toList.take i = a.data.toList := List.take_of_length_le (by omega)
        rw [hb2] at h5
        have hi : i = a.data.toList.length := by omega
        rw [hi] at h5
        show _ = _
        rw [← k1, bless_end1 _ _ (by omega) h5, k2, k3]
      clear HR hH
      go_wp2
      go_ret
      exact ⟨by rw [← hR.out]; simp, hu⟩
end Go.Proofs.Ytldmiieepikjnaa

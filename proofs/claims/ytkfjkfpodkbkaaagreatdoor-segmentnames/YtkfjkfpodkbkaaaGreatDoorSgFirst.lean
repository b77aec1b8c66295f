/- segment: First. -/
import Derived.Test.YtkfjkfpodkbkaaaGreatDoorSgParse
import Derived.Test.YtkfjkfpodkbkaaaGreatDoorMg36
import Derived.Test.YtkfjkfpodkbkaaaGreatDoorMg01
set_option linter.unusedVariables false
set_option linter.unusedSimpArgs false
namespace Go.Proofs.YtkfjkfpodkbkaaaGreatDoor
open Go Go.RowKit

/-- What the two variables of strconv hold. -/
structure Sx (w : World) : Prop where
  syn : ∃ t v, w.cell? ⟨12, 0, none⟩ = some (.iface t v)
  rng : ∃ t v, w.cell? ⟨13, 0, none⟩ = some (.iface t v)
theorem Sx.up {w w' : World} (h : Sx w) (u : Up w w') : Sx w' := by
  obtain ⟨⟨t, v, h1⟩, ⟨t', v', h2⟩⟩ := h
  exact ⟨⟨t, v, by rw [u.cell (World.block_lt_of_cell? w _ h1)]; exact h1⟩, ⟨t', v', by rw [u.cell (World.block_lt_of_cell? w _ h2)]; exact h2⟩⟩
abbrev NE (b : Nat) : Value := .iface 171 (.pointer (some ⟨b, 0, none⟩))
theorem pe_same (k : Int) (w : World) (hk : k = 1 ∨ k = 2) : (binOp .eql 40 (PE k) (PE k)).run Tryz.prog w = .ok (.bool true) w := by
  rcases hk with rfl | rfl <;> kernel_rfl
theorem pe_other (w : World) : (binOp .eql 40 (PE 1) (PE 2)).run Tryz.prog w = .ok (.bool false) w := by kernel_rfl

theorem toErr2 (L : List UInt8) (w : World) (hx : Sx w) (hl : L.length ≤ 281474976710656) :
    Calls Tryz.prog 74 #[.string ⟨#[80, 97, 114, 115, 101, 85, 105, 110, 116]⟩, Sv L, .int .i64 16, .int .i64 64, PE 2] w fun e w' => (∃ b, e = .returned (NE b)) ∧ Up w w' := by
  obtain ⟨t, v, h1⟩ := hx.syn
  have hs := Tryz.strconv_syntaxError ⟨#[80, 97, 114, 115, 101, 85, 105, 110, 116]⟩ ⟨L.toArray⟩ _ w (by simpa [ByteArray.size] using hl) h1 (.inr ⟨t, v, rfl⟩)
  have q := pe_same 2 w (.inr rfl)
  clear hx hl h1
  go_enter Tryz.func74, Tryz.ntmps74
  go_wp2_with fail
  refine hs.mono ?_
  rintro e w1 ⟨b, rfl, -, -, u1⟩
  clear hs
  go_wp2
  go_ret
  exact ⟨⟨b, rfl⟩, u1⟩
theorem toErr1 (L : List UInt8) (w : World) (hx : Sx w) (hl : L.length ≤ 281474976710656) :
    Calls Tryz.prog 74 #[.string ⟨#[80, 97, 114, 115, 101, 85, 105, 110, 116]⟩, Sv L, .int .i64 16, .int .i64 64, PE 1] w fun e w' => (∃ b, e = .returned (NE b)) ∧ Up w w' := by
  obtain ⟨t, v, h1⟩ := hx.rng
  have hs := Tryz.strconv_rangeError ⟨#[80, 97, 114, 115, 101, 85, 105, 110, 116]⟩ ⟨L.toArray⟩ _ w (by simpa [ByteArray.size] using hl) h1 (.inr ⟨t, v, rfl⟩)
  have q := pe_other w
  have q2 := pe_same 1 w (.inl rfl)
  clear hx hl h1
  go_enter Tryz.func74, Tryz.ntmps74
  go_wp2_with fail
  refine hs.mono ?_
  rintro e w1 ⟨b, rfl, -, -, u1⟩
  clear hs
  go_wp2
  go_ret
  exact ⟨⟨b, rfl⟩, u1⟩

/-- What strconv.ParseUint answers. -/
def PrsO (L : List UInt8) (e : Ending) : Prop := ∃ (n : Nat) (v : Value), e = .returned (.tuple #[.int .u64 (n : Int), v]) ∧ n < 18446744073709551616 ∧ (v = .nilIface ∨ ∃ b, v = NE b) ∧ ∀ x, x < 18446744073709551616 → L = D16 16 x → n = x ∧ v = .nilIface
theorem ParseUint16 (L : List UInt8) (w : World) (hx : Sx w) (hl : L.length ≤ 281474976710656) :
    Calls Tryz.prog 33 #[Sv L, .int .i64 16, .int .i64 64] w fun e w' => PrsO L e ∧ Up w w' := by
  have hp := parse16i L w hl
  have H1 : Hid (∀ u, Up w u → Calls Tryz.prog 74 #[.string ⟨#[80, 97, 114, 115, 101, 85, 105, 110, 116]⟩, Sv L, .int .i64 16, .int .i64 64, PE 1] u fun e w' => (∃ b, e = .returned (NE b)) ∧ Up u w') := fun u hu => toErr1 L u (hx.up hu) hl
  have H2 : Hid (∀ u, Up w u → Calls Tryz.prog 74 #[.string ⟨#[80, 97, 114, 115, 101, 85, 105, 110, 116]⟩, Sv L, .int .i64 16, .int .i64 64, PE 2] u fun e w' => (∃ b, e = .returned (NE b)) ∧ Up u w') := fun u hu => toErr2 L u (hx.up hu) hl
  clear hx hl
  go_enter Tryz.func33, Tryz.ntmps33
  go_wp2_with fail
  refine hp.mono ?_
  rintro e w1 ⟨⟨n, v, rfl, hn, hv, hd⟩, u1⟩
  clear hp
  have HD : Hid (n < 18446744073709551616 ∧ ∀ x, x < 18446744073709551616 → L = D16 16 x → n = x ∧ v = .nilIface) := ⟨hn, hd⟩
  clear hn hd
  rcases hv with rfl | rfl | rfl
  · go_wp2
    go_ret2
    exact ⟨⟨n, .nilIface, rfl, HD.out.1, .inl rfl, fun x hx e => ⟨(HD.out.2 x hx e).1, rfl⟩⟩, u1⟩
  · have h1 := H1.out w1 u1
    go_wp2_with fail
    refine h1.mono ?_
    rintro e w2 ⟨⟨b, rfl⟩, u2⟩
    clear h1
    go_wp2
    go_ret2
    exact ⟨⟨n, _, rfl, HD.out.1, .inr ⟨b, rfl⟩, fun x hx e => by have := (HD.out.2 x hx e).2; cases this⟩, u1.trans u2⟩
  · have h1 := H2.out w1 u1
    go_wp2_with fail
    refine h1.mono ?_
    rintro e w2 ⟨⟨b, rfl⟩, u2⟩
    clear h1
    go_wp2
    go_ret2
    exact ⟨⟨n, _, rfl, HD.out.1, .inr ⟨b, rfl⟩, fun x hx e => by have := (HD.out.2 x hx e).2; cases this⟩, u1.trans u2⟩

/-- TrimPrefix of "log.". -/
def trimB (nm : List UInt8) : List UInt8 := if nm.take 4 = [108, 111, 103, 46] then nm.drop 4 else nm
theorem hasLog (s : ByteArray) (b : Bool) (w : World) (h : (s.size < 4 ∧ b = false) ∨ (4 ≤ s.size ∧ ((s.extract 0 4).toList == [108, 111, 103, 46]) = b)) : Calls Tryz.prog 129 #[.string s, .string ⟨#[108, 111, 103, 46]⟩] w fun e w' => e = .returned (.bool b) ∧ w' = w := by
  have h0 : (0 : Int) ≤ (s.size : Int) := by omega
  rcases h with ⟨h1, rfl⟩ | ⟨h1, hx⟩
  · have h2 : decide ((4 : Int) ≤ (s.size : Int)) = false := by simp; omega
    clear h1
    go_enter Tryz.func129, Tryz.ntmps129
    go_wp2
    go_ret
    exact ⟨rfl, rfl⟩
  · have h2 : (4 : Int) ≤ (s.size : Int) := by omega
    clear h1
    go_enter Tryz.func129, Tryz.ntmps129
    go_wp2
    go_ret
    exact ⟨rfl, rfl⟩
theorem cut4 (nm : List UInt8) (h : 4 ≤ nm.length) (w : World) : (Instr.slice 9 (Sv nm) (some (.int .i64 4)) none none).run Tryz.prog w = .ok (Sv (nm.drop 4)) w := by
  have hs : (⟨nm.toArray⟩ : ByteArray).size = nm.length := by simp [ByteArray.size]
  have h2 : (4 : Int) ≤ (nm.length : Int) := by omega
  have e : (⟨nm.toArray⟩ : ByteArray).extract 4 nm.length = ⟨(nm.drop 4).toArray⟩ := by
    apply ByteArray.ext
    simp
    exact List.take_of_length_le (by simp)
  simp [go_sem, hs, h2, e]
theorem head4 (nm : List UInt8) (h : 4 ≤ nm.length) (w : World) : (Instr.slice 9 (Sv nm) none (some (.int .i64 4)) none).run Tryz.prog w = .ok (Sv (nm.take 4)) w := by
  have hs : (⟨nm.toArray⟩ : ByteArray).size = nm.length := by simp [ByteArray.size]
  have h2 : (4 : Int) ≤ (nm.length : Int) := by omega
  have e : (⟨nm.toArray⟩ : ByteArray).extract 0 4 = ⟨(nm.take 4).toArray⟩ := by
    apply ByteArray.ext
    simp
  simp [go_sem, hs, h2, e]
theorem trim_i (nm : List UInt8) (w : World) : Calls Tryz.prog 75 #[Sv nm, .string ⟨#[108, 111, 103, 46]⟩] w fun e w' => e = .returned (Sv (trimB nm)) ∧ w' = w := by
  have hs : (⟨nm.toArray⟩ : ByteArray).size = nm.length := by simp [ByteArray.size]
  have e4 : (⟨nm.toArray⟩ : ByteArray).extract 0 4 = ⟨(nm.take 4).toArray⟩ := by
    apply ByteArray.ext
    simp
  by_cases hp : nm.take 4 = [108, 111, 103, 46]
  · have hl : 4 ≤ nm.length := by have := congrArg List.length hp; simp at this; omega
    have hh := hasLog ⟨nm.toArray⟩ true w (.inr ⟨by rw [hs]; exact hl, by rw [e4, hp]; decide +kernel⟩)
    have hc := cut4 nm hl w
    have ht : trimB nm = nm.drop 4 := by unfold trimB; rw [if_pos hp]
    rw [ht]
    clear hp hl hs e4 ht
    go_enter Tryz.func75, Tryz.ntmps75
    go_wp2_with fail
    refine hh.mono ?_
    rintro e w1 ⟨rfl, hw⟩
    obtain rfl : w = w1 := hw.symm
    clear hh
    go_wp2
    go_ret
    exact ⟨rfl, rfl⟩
  · have hh := hasLog ⟨nm.toArray⟩ false w (by
      rcases Nat.lt_or_ge nm.length 4 with q | q
      · exact .inl ⟨by rw [hs]; exact q, rfl⟩
      · refine .inr ⟨by rw [hs]; exact q, ?_⟩
        rw [e4]
        rw [beq_eq_false_iff_ne]
        intro e
        apply hp
        simpa using e)
    have ht : trimB nm = nm := by unfold trimB; rw [if_neg hp]
    rw [ht]
    clear hp hs e4 ht
    go_enter Tryz.func75, Tryz.ntmps75
    go_wp2_with fail
    refine hh.mono ?_
    rintro e w1 ⟨rfl, hw⟩
    obtain rfl : w = w1 := hw.symm
    clear hh
    go_wp2
    go_ret
    exact ⟨rfl, rfl⟩
theorem trim_any (nm : List UInt8) (w : World) : Calls Tryz.prog 34 #[Sv nm, .string ⟨#[108, 111, 103, 46]⟩] w fun e w' => e = .returned (Sv (trimB nm)) ∧ w' = w := by
  have h := trim_i nm w
  go_enter Tryz.func34, Tryz.ntmps34
  go_wp2_with fail
  refine h.mono ?_
  rintro e w1 ⟨rfl, hw⟩
  obtain rfl : w = w1 := hw.symm
  clear h
  go_wp2
  go_ret
  exact ⟨rfl, rfl⟩
theorem isNumber_not (x : Nat) (w : World) (h : x < 1 ∨ 4611686018427387904 < x) : Calls Tryz.prog 35 #[.int .u64 (x : Int)] w fun e w' => e = .returned (.bool false) ∧ w' = w := by
  rcases Nat.lt_or_ge x 1 with h1 | h1
  · obtain rfl : x = 0 := by omega
    clear h h1
    go_enter Tryz.func35, Tryz.ntmps35
    go_wp2
    go_ret
    exact ⟨rfl, rfl⟩
  · have e1 : 0 < x := h1
    have e2 : decide ((x : Int) ≤ 4611686018427387904) = false := by simp; omega
    clear h h1
    go_enter Tryz.func35, Tryz.ntmps35
    go_wp2
    go_ret
    exact ⟨rfl, rfl⟩

/-- The number in a name. -/
def FstR (nm : List UInt8) (e : Ending) : Prop := ∃ (n : Nat) (b : Bool), e = .returned (.tuple #[.int .u64 (n : Int), .bool b]) ∧ (b = true → nm = nameB n ∧ 1 ≤ n ∧ n ≤ 4611686018427387904) ∧ (b = false → n = 0 ∧ ∀ x, 1 ≤ x → x ≤ 4611686018427387904 → nm ≠ nameB x)
theorem FstR.no {nm : List UInt8} (h : ∀ x, 1 ≤ x → x ≤ 4611686018427387904 → nm ≠ nameB x) : FstR nm (.returned (.tuple #[.int .u64 0, .bool false])) := ⟨0, false, rfl, (fun e => by cases e), fun _ => ⟨rfl, h⟩⟩
theorem FstR.yes {nm : List UInt8} {n : Nat} (h : nm = nameB n) (h1 : 1 ≤ n) (h2 : n ≤ 4611686018427387904) : FstR nm (.returned (.tuple #[.int .u64 (n : Int), .bool true])) := ⟨n, true, rfl, fun _ => ⟨h, h1, h2⟩, (fun e => by cases e)⟩
theorem trimB_name (x : Nat) (h : x < 18446744073709551616) : trimB (nameB x) = D16 16 x := by
  rw [nameB_D16 x h]
  simp [trimB]

set_option maxRecDepth 20000 in
set_option maxHeartbeats 800000 in
theorem First_any (nm : List UInt8) (w : World) (hx : Sx w) (hT : w.cell? ⟨17, 15, none⟩ = some (.int .u8 4)) (hl : nm.length ≤ 281474976710656) :
    Calls Tryz.prog 9 #[Sv nm] w fun e w' => FstR nm e ∧ Up w w' := by
  have ht := trim_any nm w
  have hp := ParseUint16 (trimB nm) w hx (by
    unfold trimB
    split
    · rw [List.length_drop]; omega
    · exact hl)
  obtain ⟨T, hT2⟩ : ∃ T, trimB nm = T := ⟨_, rfl⟩
  have HT : Hid (trimB nm = T ∧ w.cell? ⟨17, 15, none⟩ = some (.int .u8 4)) := ⟨hT2, hT⟩
  rw [hT2] at ht hp
  clear hx hl hT2 hT
  go_enter Tryz.func9, Tryz.ntmps9
  go_wp2_with fail
  refine ht.mono ?_
  rintro e w1 ⟨rfl, hw⟩
  obtain rfl : w = w1 := hw.symm
  clear ht
  go_wp2_with fail
  refine hp.mono ?_
  rintro e w1 ⟨⟨n, v, rfl, hn, hv, hd⟩, u1⟩
  clear hp
  have HD : Hid (∀ x, 1 ≤ x → x ≤ 4611686018427387904 → nm = nameB x → n = x ∧ v = .nilIface) := fun x h1 h2 e => hd x (by omega) (by rw [← HT.out.1, e]; exact trimB_name x (by omega))
  clear hd
  rcases hv with rfl | ⟨b, rfl⟩
  · by_cases hr : 1 ≤ n ∧ n ≤ 4611686018427387904
    · have hi := isNumber_any n w1 hr.1 hr.2
      have hm := Name_any n w1 hn (by rw [u1.cell (World.block_lt_of_cell? w _ HT.out.2)]; exact HT.out.2)
      have HR : Hid (1 ≤ n ∧ n ≤ 4611686018427387904) := hr
      clear hr hn
      by_cases he : nameB n = nm
      · subst he
        go_wp2_with fail
        refine hi.mono ?_
        rintro e w2 ⟨rfl, hw⟩
        obtain rfl : w1 = w2 := hw.symm
        clear hi
        go_wp2_with fail
        refine hm.mono ?_
        rintro e w2 ⟨rfl, u2⟩
        clear hm
        go_wp2
        go_ret2
        exact ⟨FstR.yes rfl HR.out.1 HR.out.2, u1.trans u2⟩
      · have HF : Hid (FstR nm (.returned (.tuple #[.int .u64 0, .bool false]))) := FstR.no fun x h1 h2 e => he (by rw [(HD.out x h1 h2 e).1]; exact e.symm)
        have q : (nameB n == nm) = false := by rw [beq_eq_false_iff_ne]; exact he
        obtain ⟨M, hM⟩ : ∃ M, nameB n = M := ⟨_, rfl⟩
        rw [hM] at q hm
        clear he hM HD
        go_wp2_with fail
        refine hi.mono ?_
        rintro e w2 ⟨rfl, hw⟩
        obtain rfl : w1 = w2 := hw.symm
        clear hi
        go_wp2_with fail
        refine hm.mono ?_
        rintro e w2 ⟨rfl, u2⟩
        clear hm
        go_wp2
        go_ret2
        exact ⟨HF.out, u1.trans u2⟩
    · have hi := isNumber_not n w1 (by omega)
      have HF : Hid (FstR nm (.returned (.tuple #[.int .u64 0, .bool false]))) := FstR.no fun x h1 h2 e => hr (by rw [(HD.out x h1 h2 e).1]; exact ⟨h1, h2⟩)
      clear hr hn
      go_wp2_with fail
      refine hi.mono ?_
      rintro e w2 ⟨rfl, hw⟩
      obtain rfl : w1 = w2 := hw.symm
      clear hi
      go_wp2
      go_ret2
      exact ⟨HF.out, u1⟩
  · have HF : Hid (FstR nm (.returned (.tuple #[.int .u64 0, .bool false]))) := FstR.no fun x h1 h2 e => by have := (HD.out x h1 h2 e).2; cases this
    clear hn
    go_wp2
    go_ret2
    exact ⟨HF.out, u1⟩
end Go.Proofs.YtkfjkfpodkbkaaaGreatDoor

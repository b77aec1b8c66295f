/- Merged: Num, Make. -/
import Derived.Test.YtkfjkfpodkbkaaaGreatDoorMg13
import Derived.Deep.QuietTactic
import Derived.BigQuiet
import Derived.Lib.SliceRun
set_option linter.unusedVariables false
namespace Go.Proofs.YtkfjkfpodkbkaaaGreatDoor
open Go Go.RowKit

/-- The number at the front: the number, how many bytes it has, the fault. i: so many groups are behind, x: their number. -/
def numR (aS aF : Addr) : Nat → Nat → List UInt8 → Nat × Nat × Value
  | _, _, [] => (0, 0, E aS)
  | i, x, c :: r =>
    if (0 < i ∧ c.toNat = 0) ∨ (i = 9 ∧ 1 < c.toNat) then (0, 0, E aF)
    else if c.toNat < 128 then (x + 2 ^ (7 * i) * (c.toNat % 128), i + 1, .nilIface)
    else numR aS aF (i + 1) (x + 2 ^ (7 * i) * (c.toNat % 128)) r

/-- What firstNumber's loop keeps. -/
def NumK (aS aF : Addr) (bs : List UInt8) (k x : Nat) : Prop := k ≤ 9 ∧ x < 2 ^ (7 * k) ∧ numR aS aF 0 0 bs = numR aS aF k x (bs.drop k)

theorem NumK.start (aS aF : Addr) (bs : List UInt8) : NumK aS aF bs 0 0 := ⟨by omega, by simp, rfl⟩
theorem NumK.le {aS aF : Addr} {bs : List UInt8} {k x : Nat} (h : NumK aS aF bs k x) : k ≤ 9 := h.1
theorem NumK.short {aS aF : Addr} {bs : List UInt8} {k x : Nat} (h : NumK aS aF bs k x) (hk : k = bs.length) : numR aS aF 0 0 bs = (0, 0, E aS) := by
  rw [h.2.2, hk, List.drop_length]; rfl
theorem NumK.eq {aS aF : Addr} {bs : List UInt8} {k x : Nat} (h : NumK aS aF bs k x) (hk : k < bs.length) :
    numR aS aF 0 0 bs = if (0 < k ∧ bs[k].toNat = 0) ∨ (k = 9 ∧ 1 < bs[k].toNat) then (0, 0, E aF)
    else if bs[k].toNat < 128 then (x + 2 ^ (7 * k) * (bs[k].toNat % 128), k + 1, .nilIface)
    else numR aS aF (k + 1) (x + 2 ^ (7 * k) * (bs[k].toNat % 128)) (bs.drop (k + 1)) := by
  rw [h.2.2, List.drop_eq_getElem_cons hk]; rfl
theorem NumK.next {aS aF : Addr} {bs : List UInt8} {k x : Nat} (h : NumK aS aF bs k x) (hk : k < bs.length) (h1 : ¬ ((0 < k ∧ bs[k].toNat = 0) ∨ (k = 9 ∧ 1 < bs[k].toNat))) (h2 : ¬ bs[k].toNat < 128) :
    NumK aS aF bs (k + 1) (x + 2 ^ (7 * k) * (bs[k].toNat % 128)) := by
  have he := h.eq hk
  rw [if_neg h1, if_neg h2] at he
  refine ⟨?_, ?_, he⟩
  · have := h.1; omega
  · have hx := h.2.1
    have hc : bs[k].toNat % 128 < 128 := Nat.mod_lt _ (by omega)
    have e : 2 ^ (7 * (k + 1)) = 2 ^ (7 * k) * 128 := by rw [show 7 * (k + 1) = 7 * k + 7 by omega, Nat.pow_add]
    rw [e]
    have : 2 ^ (7 * k) * (bs[k].toNat % 128) ≤ 2 ^ (7 * k) * 127 := Nat.mul_le_mul_left _ (by omega)
    omega

/-- What a round of firstNumber answers, or hands on: one lemma a way. -/
theorem NumK.bad {aS aF : Addr} {bs : List UInt8} {k x : Nat} (h : NumK aS aF bs k x) (hk : k < bs.length) (hb : (0 < k ∧ bs[k].toNat = 0) ∨ (k = 9 ∧ 1 < bs[k].toNat)) : numR aS aF 0 0 bs = (0, 0, E aF) := by
  rw [h.eq hk, if_pos hb]
theorem NumK.last {aS aF : Addr} {bs : List UInt8} {k x : Nat} (h : NumK aS aF bs k x) (hk : k < bs.length) (hb : ¬ ((0 < k ∧ bs[k].toNat = 0) ∨ (k = 9 ∧ 1 < bs[k].toNat))) (h2 : bs[k].toNat < 128) :
    numR aS aF 0 0 bs = (x + 2 ^ (7 * k) * (bs[k].toNat % 128), k + 1, .nilIface) := by
  rw [h.eq hk, if_neg hb, if_pos h2]
theorem NumK.or {aS aF : Addr} {bs : List UInt8} {k x : Nat} (h : NumK aS aF bs k x) (hk : k < bs.length) (h9 : k = 9 → bs[k].toNat ≤ 1) :
    bits .or .u64 (x : Int) (IntKind.u64.wrap (IntKind.u64.wrap ((bs[k].toNat % 128 : Nat) : Int) * 2 ^ (7 * k))) = ((x + 2 ^ (7 * k) * (bs[k].toNat % 128) : Nat) : Int) := by
  have hx := h.2.1
  have hc : bs[k].toNat % 128 < 128 := Nat.mod_lt _ (by omega)
  have h9' := h.1
  have hx2 : x < 2 ^ 63 := Nat.lt_of_lt_of_le hx (Nat.pow_le_pow_right (by omega) (by omega))
  refine or_place _ _ _ hx ?_ (by omega)
  rcases Nat.lt_or_ge k 9 with hk9 | hk9
  · have hp : (2 : Nat) ^ (7 * k) ≤ 2 ^ 56 := Nat.pow_le_pow_right (by omega) (by omega)
    have := Nat.mul_le_mul hp (show bs[k].toNat % 128 ≤ 127 by omega)
    omega
  · obtain rfl : k = 9 := by omega
    have := h9 rfl
    have hm : bs[9].toNat % 128 ≤ 1 := by omega
    have := Nat.mul_le_mul_left (2 ^ (7 * 9)) hm
    omega

theorem and127_fin : ∀ a : Fin 256, bits .and .u8 (a.val : Int) 127 = ((a.val % 128 : Nat) : Int) := by decide +kernel
theorem and127_any (q : Nat) (h : q < 256) : bits .and .u8 (q : Int) 127 = ((q % 128 : Nat) : Int) := and127_fin ⟨q, h⟩

theorem tup3 {a b : Int} {c d : Int} {x y : Value} (h1 : a = b) (h2 : c = d) (h3 : x = y) : Ending.returned (.tuple #[.int .u64 a, .int .i64 c, x]) = .returned (.tuple #[.int .u64 b, .int .i64 d, y]) := by rw [h1, h2, h3]

end Go.Proofs.YtkfjkfpodkbkaaaGreatDoor

set_option linter.unusedVariables false
namespace Go.Proofs.YtkfjkfpodkbkaaaGreatDoor
open Go Go.RowKit

/-- append(s, x...) where s is an own row of bytes, and x a slice of bytes that is not nil. -/
theorem wpList_append_sl {ops : Array Oper} {rest : List Oper} {o : Oper} {a : Act} {Q : Exit → Act → World → Prop} (w : World) (hgd : o.guard = none) (s x : Operand)
    (ho : o.op = .call { callee := .builtin .append, args := #[s, x], argTypes := #[60, 60] }) (base base' : Nat) (v : Value) (bs cs : List UInt8) (hs : a.eval s = v) (ad : Addr) (c : Nat)
    (hx : a.eval x = .slice (some ad) cs.length c) (how : Own w 5 base v bs) (hsx : Sl base' w (.slice (some ad) cs.length c) cs) (hbase : base ≤ w.heap.size) (hl : bs.length + cs.length ≤ 140737488355000)
    (hK : ∀ v' w', Own w' 5 base v' (bs ++ cs) → Below base w w' → wpList Tryz.prog ops Q rest (a.put o.dst v') w') :
    wpList Tryz.prog ops Q (o :: rest) a w := by
  obtain ⟨i0, hi, hz0, hz1, hz2⟩ := info_parts Tryz.infoU8
  refine wpList_append_own _ hgd s x 60 ho base 5 i0 (.int .u8 0) 1 1 Tryz.underlying60 hi hz0 hz1 hz2 rfl (by decide) v bs.length (Bv bs) hs how ad cs.length c (Bv cs) hx (by simp) ?_ (Bv_one cs) ?_ ?_ hbase ?_
  · intro j u hj
    obtain ⟨ao, cap, hv, _, _, hxx⟩ := hsx
    obtain ⟨b, o, rfl, _, ha⟩ := hxx (by rintro rfl; simp at hj)
    simp only [Value.slice.injEq] at hv
    obtain rfl := Option.some.inj hv.1
    exact ha.add j u hj
  · unfold maxLen; omega
  · omega
  · intro v' w' h1 h2 _
    refine hK v' w' (by simpa [Own] using h1) ((Below.refl base w).grown h2 hbase ?_)
    intro k hk
    exact (World.ownsRow.lt how k hk).1

set_option maxHeartbeats 400000 in
theorem Clone_any (base : Nat) (v : Value) (bs : List UInt8) (w : World) (hs : Sl base w v bs) (hl : bs.length ≤ 140737488351232) :
    Calls Tryz.prog 150 #[v] w fun e w' => ∃ v', e = .returned v' ∧ Sl w.heap.size w' v' bs ∧ Up w w' := by
  have hs0 := hs
  obtain ⟨ao, cap, rfl, hc, hn, hx⟩ := hs
  cases ao with
  | none =>
    have h0 : bs = [] := List.eq_nil_of_length_eq_zero (by have := hn rfl; omega)
    subst h0
    have hq : ∀ u, (binOp .eql 60 (.slice none 0 cap) (.slice none 0 0)).run Tryz.prog u = .ok (.bool true) u := fun u => Lib.run_eql_slice_nil (P := Tryz.prog) u 60 5 none 0 cap 0 0 Tryz.underlying60
    clear hx hs0 hn hc
    go_enter Tryz.func150, Tryz.ntmps150
    go_wp2
    go_ret
    exact ⟨_, rfl, Sl.nil _ _, Up.refl _⟩
  | some ad =>
    have hq : ∀ u, (binOp .eql 60 (.slice (some ad) bs.length cap) (.slice none 0 0)).run Tryz.prog u = .ok (.bool false) u := fun u => Lib.run_eql_slice_nil (P := Tryz.prog) u 60 5 (some ad) bs.length cap 0 0 Tryz.underlying60
    clear hx hn
    go_enter Tryz.func150, Tryz.ntmps150
    go_wp2_with (at_builtin; refine wpList_append_sl _ rfl (.tmp 5) (.tmp 6) rfl w.heap.size base _ [] bs rfl ad cap rfl ?ho (hs0.up ?hu) ?hb ?hl ?_)
    case ho => exact ⟨rfl, .inr ⟨w.heap.size, 0, #[], rfl, Nat.le_refl _, heap_alloc_new _ _, Nat.le_refl _, by unfold maxLen; omega, rfl, rfl⟩⟩
    case hu => exact Up.alloc _ _
    case hb => simp
    case hl => simp; omega
    intro v' w' ho hb
    go_wp2
    go_ret
    exact ⟨_, rfl, ho.sl, Below.trans (Up.alloc w (.cells #[] 5)) hb⟩

set_option maxHeartbeats 400000 in
theorem NewReader_any (base : Nat) (v : Value) (bs : List UInt8) (w : World) (hs : Sl base w v bs) (hl : bs.length ≤ 140737488351232) :
    Calls Tryz.prog 115 #[v] w fun e w' => ∃ r, e = .returned (.pointer (some ⟨r, 0, none⟩)) ∧ w.heap.size ≤ r ∧ Rdr w.heap.size w' r bs .nilIface ∧ Up w w' := by
  go_enter Tryz.func115, Tryz.ntmps115
  go_wp2_with fail
  refine (Clone_any base v bs _ hs hl).mono ?_
  rintro e w1 ⟨v1, rfl, hs1, hu⟩
  have hs2 := hs1
  obtain ⟨ao, cap, rfl, _⟩ := hs1
  go_wp2
  go_ret
  exact ⟨_, rfl, hu.size, ⟨_, heap_alloc_new _ _, hs2.up (Up.alloc _ _)⟩, hu.trans (Up.alloc _ _)⟩

/-! Calls that change nothing. -/
theorem Left_any (base : Nat) (r : Nat) (bs : List UInt8) (fv : Value) (w : World) (h : Rdr base w r bs fv) :
    Calls Tryz.prog 154 #[.pointer (some ⟨r, 0, none⟩)] w fun e w' => e = .returned (.int .i64 bs.length) ∧ w' = w := by
  obtain ⟨v, hs, hh, h0, h1, f0, f1⟩ := rdr_cells h
  obtain ⟨ao, cap, rfl, _⟩ := hs
  clear h
  go_enter Tryz.func154, Tryz.ntmps154
  go_wp2
  go_ret
  exact ⟨rfl, rfl⟩
theorem Err_any (base : Nat) (r : Nat) (bs : List UInt8) (fv : Value) (w : World) (h : Rdr base w r bs fv) :
    Calls Tryz.prog 153 #[.pointer (some ⟨r, 0, none⟩)] w fun e w' => e = .returned fv ∧ w' = w := by
  obtain ⟨v, hs, hh, h0, h1, f0, f1⟩ := rdr_cells h
  clear h
  go_enter Tryz.func153, Tryz.ntmps153
  go_wp2
  go_ret
  exact ⟨rfl, rfl⟩

/-- What End answers. -/
def endF (aF : Addr) (bs : List UInt8) : Value → Value
  | .nilIface => if bs.length = 0 then .nilIface else E aF
  | v => v

/-! Number. -/
theorem numR_ok (aS aF : Addr) (bs : List UInt8) : ∀ i x, i ≤ 9 → x < 2 ^ (7 * i) → (numR aS aF i x bs).1 < 2 ^ 64 ∧ ((numR aS aF i x bs).2.2 = .nilIface ∧ i < (numR aS aF i x bs).2.1 ∧ (numR aS aF i x bs).2.1 ≤ i + bs.length ∨ (numR aS aF i x bs).2.1 = 0 ∧ (numR aS aF i x bs).1 = 0 ∧ ∃ a, (numR aS aF i x bs).2.2 = E a) := by
  induction bs with
  | nil => intro i x _ _; exact ⟨by simp [numR], .inr ⟨rfl, rfl, aS, rfl⟩⟩
  | cons c r ih =>
    intro i x hi hx
    unfold numR
    by_cases hb : (0 < i ∧ c.toNat = 0) ∨ (i = 9 ∧ 1 < c.toNat)
    · rw [if_pos hb]; exact ⟨by simp, .inr ⟨rfl, rfl, aF, rfl⟩⟩
    · rw [if_neg hb]
      have hm : c.toNat % 128 < 128 := Nat.mod_lt _ (by omega)
      have e : 2 ^ (7 * (i + 1)) = 2 ^ (7 * i) * 128 := by rw [show 7 * (i + 1) = 7 * i + 7 by omega, Nat.pow_add]
      have hx' : x + 2 ^ (7 * i) * (c.toNat % 128) < 2 ^ (7 * (i + 1)) := by
        have : 2 ^ (7 * i) * (c.toNat % 128) ≤ 2 ^ (7 * i) * 127 := Nat.mul_le_mul_left _ (by omega)
        omega
      by_cases hs : c.toNat < 128
      · rw [if_pos hs]
        refine ⟨?_, .inl ⟨rfl, Nat.lt_succ_self i, by simp only [List.length_cons]; omega⟩⟩
        show x + 2 ^ (7 * i) * (c.toNat % 128) < 2 ^ 64
        rcases Nat.lt_or_ge i 9 with h9 | h9
        · have : (2 : Nat) ^ (7 * (i + 1)) ≤ 2 ^ 63 := Nat.pow_le_pow_right (by omega) (by omega)
          omega
        · obtain rfl : i = 9 := by omega
          have h1 : c.toNat % 128 ≤ 1 := by omega
          have := Nat.mul_le_mul_left (2 ^ (7 * 9)) h1
          omega
      · rw [if_neg hs]
        have hi9 : i + 1 ≤ 9 := by
          rcases Nat.lt_or_ge i 9 with h9 | h9
          · omega
          · omega
        obtain ⟨h1, h2⟩ := ih (i + 1) _ hi9 hx'
        refine ⟨h1, ?_⟩
        rcases h2 with ⟨a, b, c'⟩ | h2
        · exact .inl ⟨a, by omega, by simp only [List.length_cons]; omega⟩
        · exact .inr h2

def numA (aS aF : Addr) (bs : List UInt8) : Value → Nat
  | .nilIface => (numR aS aF 0 0 bs).1
  | _ => 0
def numL (aS aF : Addr) (bs : List UInt8) : Value → List UInt8
  | .nilIface => bs.drop (numR aS aF 0 0 bs).2.1
  | _ => bs
def numF (aS aF : Addr) (bs : List UInt8) : Value → Value
  | .nilIface => (numR aS aF 0 0 bs).2.2
  | v => v



theorem numF_is (aS aF : Addr) (bs : List UInt8) {fv : Value} (hf : isF fv) : isF (numF aS aF bs fv) := by
  rcases hf with rfl | ⟨x, rfl⟩
  · rcases (numR_ok aS aF bs 0 0 (by omega) (by simp)).2 with h | h
    · exact .inl h.1
    · exact .inr h.2.2
  · exact .inr ⟨x, rfl⟩


/-! Text. -/
theorem sl_string {base : Nat} {w : World} {v : Value} {bs : List UInt8} (hs : Sl base w v bs) : (convert 60 9 v).run Tryz.prog w = .ok (.string ⟨bs.toArray⟩) w := by
  obtain ⟨ao, cap, rfl, _, _, hx⟩ := hs
  by_cases hb : bs = []
  · subst hb
    rw [run_convert_bytes_string (P := Tryz.prog) w 60 9 5 ao _ cap Tryz.underlying60 Tryz.underlying5 Tryz.underlying9]
    cases ao with
    | none => simp [Conv.bytesToString]; rfl
    | some a => 
      show (Conv.bytesToString (.slice (some a) 0 cap)).run Tryz.prog w = _
      rw [run_bytesToString w a 0 cap [] (by simp [loadCells, loadCellsFrom])]
      rfl
  · obtain ⟨b, o, rfl, _, ha⟩ := hx hb
    have h := run_convert_bytes_arg (P := Tryz.prog) w 60 5 Tryz.underlying60 Tryz.underlying5 b o bs.length cap (bs.map fun c => (c.toNat : Int)) (by simp) (by
      intro i hi
      rw [ha i hi]
      simp [List.getD, hi]) 9 Tryz.underlying9
    rw [h]
    have e : strOfNums (bs.map fun c => (c.toNat : Int)) = ⟨bs.toArray⟩ := by
      simp [strOfNums]
      exact (List.map_congr_left (fun c _ => by simp)).trans (List.map_id' bs)
    rw [e]

theorem sl_string' {base : Nat} {w : World} {ao : Option Addr} {n cap : Nat} {bs : List UInt8} (hs : Sl base w (.slice ao n cap) bs) : n = bs.length ∧ (convert 60 9 (.slice ao n cap)).run Tryz.prog w = .ok (.string ⟨bs.toArray⟩) w :=
  ⟨by obtain ⟨a, c, h, _⟩ := hs; simp at h; exact h.2.1, sl_string hs⟩

/-- What Text answers, leaves; the fault. -/
abbrev textOk (bs : List UInt8) : Prop := 2 ≤ bs.length ∧ 2 + unle (bs.take 2) ≤ bs.length
def textA (bs : List UInt8) : Value → List UInt8
  | .nilIface => if textOk bs then (bs.drop 2).take (unle (bs.take 2)) else []
  | _ => []
def textL (bs : List UInt8) : Value → List UInt8
  | .nilIface => if textOk bs then bs.drop (2 + unle (bs.take 2)) else bs
  | _ => bs
def textF (aS : Addr) (bs : List UInt8) : Value → Value
  | .nilIface => if textOk bs then .nilIface else E aS
  | v => v

set_option maxHeartbeats 400000 in
theorem text_fault (base : Nat) (r : Nat) (bs : List UInt8) (a : Addr) (w : World) (h : Rdr base w r bs (E a)) :
    Calls Tryz.prog 192 #[.pointer (some ⟨r, 0, none⟩)] w fun e w' => e = .returned (.string ⟨#[]⟩) ∧ Rdr base w' r bs (E a) ∧ But r w w' := by
  obtain ⟨v, hs, hh, h0, h1, f0, f1⟩ := rdr_cells h
  have hr := rdr_set_left h (by intro k n e; cases e) hs
  obtain ⟨ao, cap, rfl, _⟩ := hs
  go_enter Tryz.func192, Tryz.ntmps192
  go_wp2_with fail
  refine (whole_fault base r bs _ _ 2 _ h).mono ?_
  rintro e w1 ⟨rfl, rfl⟩
  go_wp2_with fail
  refine (take_fault base r bs _ _ 0 _ h).mono ?_
  rintro e w1 ⟨rfl, rfl⟩
  clear h
  go_wp2
  go_ret
  exact ⟨rfl, hr, But.setCell _ _ _ _⟩
end Go.Proofs.YtkfjkfpodkbkaaaGreatDoor

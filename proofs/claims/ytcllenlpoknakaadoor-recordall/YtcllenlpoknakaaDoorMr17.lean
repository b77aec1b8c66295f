/- Merged: Make. -/
import Derived.Test.YtcllenlpoknakaaDoorMr16
import Derived.Lib.SliceRun
set_option linter.unusedVariables false
namespace Go.Proofs.YtcllenlpoknakaaDoor
open Go Go.RowKit

/-- append(s, x...) where s is an own row of bytes, and x a slice of bytes that is not nil. -/
theorem wpList_append_sl {ops : Array Oper} {rest : List Oper} {o : Oper} {a : Act} {Q : Exit → Act → World → Prop} (w : World) (hgd : o.guard = none) (s x : Operand)
    (ho : o.op = .call { callee := .builtin .append, args := #[s, x], argTypes := #[33, 33] }) (base base' : Nat) (v : Value) (bs cs : List UInt8) (hs : a.eval s = v) (ad : Addr) (c : Nat)
    (hx : a.eval x = .slice (some ad) cs.length c) (how : Own w 5 base v bs) (hsx : Sl base' w (.slice (some ad) cs.length c) cs) (hbase : base ≤ w.heap.size) (hl : bs.length + cs.length ≤ 140737488355000)
    (hK : ∀ v' w', Own w' 5 base v' (bs ++ cs) → Below base w w' → wpList Tryd.prog ops Q rest (a.put o.dst v') w') :
    wpList Tryd.prog ops Q (o :: rest) a w := by
  obtain ⟨i0, hi, hz0, hz1, hz2⟩ := info_parts Tryd.infoU8
  refine wpList_append_own _ hgd s x 33 ho base 5 i0 (.int .u8 0) 1 1 Tryd.underlying33 hi hz0 hz1 hz2 rfl (by decide) v bs.length (Bv bs) hs how ad cs.length c (Bv cs) hx (by simp) ?_ (Bv_one cs) ?_ ?_ hbase ?_
  · intro j u hj
    obtain ⟨ao, cap, hv, _, _, hxx⟩ := hsx
    obtain ⟨b, o, rfl, _, ha⟩ := hxx (by rintro rfl; simp at hj)
    simp only [Value.slice.injEq] at hv
    obtain rfl := Option.some.inj hv.1
    exact ha.add j u hj
  · unfold maxLen; omega
  · omega
  · intro v' w' h1 h2 _
    refine hK v' w' (by simpa [Own] using h1) ((Below.refl base w).grown h2 hbase ?_)
    intro k hk
    exact (World.ownsRow.lt how k hk).1

set_option maxHeartbeats 400000 in
theorem Clone_any (base : Nat) (v : Value) (bs : List UInt8) (w : World) (hs : Sl base w v bs) (hl : bs.length ≤ 140737488351232) :
    Calls Tryd.prog 48 #[v] w fun e w' => ∃ v', e = .returned v' ∧ Sl w.heap.size w' v' bs ∧ Up w w' := by
  have hs0 := hs
  obtain ⟨ao, cap, rfl, hc, hn, hx⟩ := hs
  cases ao with
  | none =>
    have h0 : bs = [] := List.eq_nil_of_length_eq_zero (by have := hn rfl; omega)
    subst h0
    have hq : ∀ u, (binOp .eql 33 (.slice none 0 cap) (.slice none 0 0)).run Tryd.prog u = .ok (.bool true) u := fun u => Lib.run_eql_slice_nil (P := Tryd.prog) u 33 5 none 0 cap 0 0 Tryd.underlying33
    clear hx hs0 hn hc
    go_enter Tryd.func48, Tryd.ntmps48
    go_wp2
    go_ret
    exact ⟨_, rfl, Sl.nil _ _, Up.refl _⟩
  | some ad =>
    have hq : ∀ u, (binOp .eql 33 (.slice (some ad) bs.length cap) (.slice none 0 0)).run Tryd.prog u = .ok (.bool false) u := fun u => Lib.run_eql_slice_nil (P := Tryd.prog) u 33 5 (some ad) bs.length cap 0 0 Tryd.underlying33
    clear hx hn
    go_enter Tryd.func48, Tryd.ntmps48
    go_wp2_with (at_builtin; refine wpList_append_sl _ rfl (.tmp 5) (.tmp 6) rfl w.heap.size base _ [] bs rfl ad cap rfl ?ho (hs0.up ?hu) ?hb ?hl ?_)
    case ho => exact ⟨rfl, .inr ⟨w.heap.size, 0, #[], rfl, Nat.le_refl _, heap_alloc_new _ _, Nat.le_refl _, by unfold maxLen; omega, rfl, rfl⟩⟩
    case hu => exact Up.alloc _ _
    case hb => simp
    case hl => simp; omega
    intro v' w' ho hb
    go_wp2
    go_ret
    exact ⟨_, rfl, ho.sl, Below.trans (Up.alloc w (.cells #[] 5)) hb⟩

set_option maxHeartbeats 400000 in
theorem NewReader_any (base : Nat) (v : Value) (bs : List UInt8) (w : World) (hs : Sl base w v bs) (hl : bs.length ≤ 140737488351232) :
    Calls Tryd.prog 27 #[v] w fun e w' => ∃ r, e = .returned (.pointer (some ⟨r, 0, none⟩)) ∧ w.heap.size ≤ r ∧ Rdr w.heap.size w' r bs .nilIface ∧ Up w w' := by
  go_enter Tryd.func27, Tryd.ntmps27
  go_wp2_with fail
  refine (Clone_any base v bs _ hs hl).mono ?_
  rintro e w1 ⟨v1, rfl, hs1, hu⟩
  have hs2 := hs1
  obtain ⟨ao, cap, rfl, _⟩ := hs1
  go_wp2
  go_ret
  exact ⟨_, rfl, hu.size, ⟨_, heap_alloc_new _ _, hs2.up (Up.alloc _ _)⟩, hu.trans (Up.alloc _ _)⟩

/-! Calls that change nothing. -/
theorem Left_any (base : Nat) (r : Nat) (bs : List UInt8) (fv : Value) (w : World) (h : Rdr base w r bs fv) :
    Calls Tryd.prog 51 #[.pointer (some ⟨r, 0, none⟩)] w fun e w' => e = .returned (.int .i64 bs.length) ∧ w' = w := by
  obtain ⟨v, hs, hh, h0, h1, f0, f1⟩ := rdr_cells h
  obtain ⟨ao, cap, rfl, _⟩ := hs
  clear h
  go_enter Tryd.func51, Tryd.ntmps51
  go_wp2
  go_ret
  exact ⟨rfl, rfl⟩
theorem Err_any (base : Nat) (r : Nat) (bs : List UInt8) (fv : Value) (w : World) (h : Rdr base w r bs fv) :
    Calls Tryd.prog 29 #[.pointer (some ⟨r, 0, none⟩)] w fun e w' => e = .returned fv ∧ w' = w := by
  obtain ⟨v, hs, hh, h0, h1, f0, f1⟩ := rdr_cells h
  clear h
  go_enter Tryd.func29, Tryd.ntmps29
  go_wp2
  go_ret
  exact ⟨rfl, rfl⟩

/-- What End answers. -/
def endF (aF : Addr) (bs : List UInt8) : Value → Value
  | .nilIface => if bs.length = 0 then .nilIface else E aF
  | v => v
theorem End_any (base : Nat) (r : Nat) (bs : List UInt8) (fv : Value) (aF : Addr) (w : World) (h : Rdr base w r bs fv) (hf : isF fv) (hF : Gl w 2 aF) :
    Calls Tryd.prog 35 #[.pointer (some ⟨r, 0, none⟩)] w fun e w' => e = .returned (endF aF bs fv) ∧ w' = w := by
  have cF := hF.cell
  rcases hf with rfl | ⟨x, rfl⟩
  · by_cases h0 : bs.length = 0
    · have g : ¬ (0 : Int) < (bs.length : Int) := by omega
      simp only [endF, if_pos h0]
      clear h0
      go_enter Tryd.func35, Tryd.ntmps35
      go_wp2_with fail
      refine (Err_any base r bs .nilIface _ h).mono ?_
      rintro e w1 ⟨rfl, rfl⟩
      go_wp2_with fail
      refine (Left_any base r bs .nilIface _ h).mono ?_
      rintro e w1 ⟨rfl, rfl⟩
      go_wp2
      go_ret
      exact ⟨rfl, rfl⟩
    · have g : 0 < bs.length := by omega
      simp only [endF, if_neg h0]
      clear h0
      go_enter Tryd.func35, Tryd.ntmps35
      go_wp2_with fail
      refine (Err_any base r bs .nilIface _ h).mono ?_
      rintro e w1 ⟨rfl, rfl⟩
      go_wp2_with fail
      refine (Left_any base r bs .nilIface _ h).mono ?_
      rintro e w1 ⟨rfl, rfl⟩
      go_wp2
      go_ret
      exact ⟨rfl, rfl⟩
  · go_enter Tryd.func35, Tryd.ntmps35
    go_wp2_with fail
    refine (Err_any base r bs (E x) _ h).mono ?_
    rintro e w1 ⟨rfl, rfl⟩
    go_wp2
    go_ret
    exact ⟨rfl, rfl⟩

/-! Number. -/
theorem numR_ok (aS aF : Addr) (bs : List UInt8) : ∀ i x, i ≤ 9 → x < 2 ^ (7 * i) → (numR aS aF i x bs).1 < 2 ^ 64 ∧ ((numR aS aF i x bs).2.2 = .nilIface ∧ i < (numR aS aF i x bs).2.1 ∧ (numR aS aF i x bs).2.1 ≤ i + bs.length ∨ (numR aS aF i x bs).2.1 = 0 ∧ (numR aS aF i x bs).1 = 0 ∧ ∃ a, (numR aS aF i x bs).2.2 = E a) := by
  induction bs with
  | nil => intro i x _ _; exact ⟨by simp [numR], .inr ⟨rfl, rfl, aS, rfl⟩⟩
  | cons c r ih =>
    intro i x hi hx
    unfold numR
    by_cases hb : (0 < i ∧ c.toNat = 0) ∨ (i = 9 ∧ 1 < c.toNat)
    · rw [if_pos hb]; exact ⟨by simp, .inr ⟨rfl, rfl, aF, rfl⟩⟩
    · rw [if_neg hb]
      have hm : c.toNat % 128 < 128 := Nat.mod_lt _ (by omega)
      have e : 2 ^ (7 * (i + 1)) = 2 ^ (7 * i) * 128 := by rw [show 7 * (i + 1) = 7 * i + 7 by omega, Nat.pow_add]
      have hx' : x + 2 ^ (7 * i) * (c.toNat % 128) < 2 ^ (7 * (i + 1)) := by
        have : 2 ^ (7 * i) * (c.toNat % 128) ≤ 2 ^ (7 * i) * 127 := Nat.mul_le_mul_left _ (by omega)
        omega
      by_cases hs : c.toNat < 128
      · rw [if_pos hs]
        refine ⟨?_, .inl ⟨rfl, Nat.lt_succ_self i, by simp only [List.length_cons]; omega⟩⟩
        show x + 2 ^ (7 * i) * (c.toNat % 128) < 2 ^ 64
        rcases Nat.lt_or_ge i 9 with h9 | h9
        · have : (2 : Nat) ^ (7 * (i + 1)) ≤ 2 ^ 63 := Nat.pow_le_pow_right (by omega) (by omega)
          omega
        · obtain rfl : i = 9 := by omega
          have h1 : c.toNat % 128 ≤ 1 := by omega
          have := Nat.mul_le_mul_left (2 ^ (7 * 9)) h1
          omega
      · rw [if_neg hs]
        have hi9 : i + 1 ≤ 9 := by
          rcases Nat.lt_or_ge i 9 with h9 | h9
          · omega
          · omega
        obtain ⟨h1, h2⟩ := ih (i + 1) _ hi9 hx'
        refine ⟨h1, ?_⟩
        rcases h2 with ⟨a, b, c'⟩ | h2
        · exact .inl ⟨a, by omega, by simp only [List.length_cons]; omega⟩
        · exact .inr h2

def numA (aS aF : Addr) (bs : List UInt8) : Value → Nat
  | .nilIface => (numR aS aF 0 0 bs).1
  | _ => 0
def numL (aS aF : Addr) (bs : List UInt8) : Value → List UInt8
  | .nilIface => bs.drop (numR aS aF 0 0 bs).2.1
  | _ => bs
def numF (aS aF : Addr) (bs : List UInt8) : Value → Value
  | .nilIface => (numR aS aF 0 0 bs).2.2
  | v => v



theorem numF_is (aS aF : Addr) (bs : List UInt8) {fv : Value} (hf : isF fv) : isF (numF aS aF bs fv) := by
  rcases hf with rfl | ⟨x, rfl⟩
  · rcases (numR_ok aS aF bs 0 0 (by omega) (by simp)).2 with h | h
    · exact .inl h.1
    · exact .inr h.2.2
  · exact .inr ⟨x, rfl⟩


/-! Text. -/
theorem sl_string {base : Nat} {w : World} {v : Value} {bs : List UInt8} (hs : Sl base w v bs) : (convert 33 9 v).run Tryd.prog w = .ok (.string ⟨bs.toArray⟩) w := by
  obtain ⟨ao, cap, rfl, _, _, hx⟩ := hs
  by_cases hb : bs = []
  · subst hb
    rw [run_convert_bytes_string (P := Tryd.prog) w 33 9 5 ao _ cap Tryd.underlying33 Tryd.underlying5 Tryd.underlying9]
    cases ao with
    | none => simp [Conv.bytesToString]; rfl
    | some a => 
      show (Conv.bytesToString (.slice (some a) 0 cap)).run Tryd.prog w = _
      rw [run_bytesToString w a 0 cap [] (by simp [loadCells, loadCellsFrom])]
      rfl
  · obtain ⟨b, o, rfl, _, ha⟩ := hx hb
    have h := run_convert_bytes_arg (P := Tryd.prog) w 33 5 Tryd.underlying33 Tryd.underlying5 b o bs.length cap (bs.map fun c => (c.toNat : Int)) (by simp) (by
      intro i hi
      rw [ha i hi]
      simp [List.getD, hi]) 9 Tryd.underlying9
    rw [h]
    have e : strOfNums (bs.map fun c => (c.toNat : Int)) = ⟨bs.toArray⟩ := by
      simp [strOfNums]
      exact (List.map_congr_left (fun c _ => by simp)).trans (List.map_id' bs)
    rw [e]

theorem sl_string' {base : Nat} {w : World} {ao : Option Addr} {n cap : Nat} {bs : List UInt8} (hs : Sl base w (.slice ao n cap) bs) : n = bs.length ∧ (convert 33 9 (.slice ao n cap)).run Tryd.prog w = .ok (.string ⟨bs.toArray⟩) w :=
  ⟨by obtain ⟨a, c, h, _⟩ := hs; simp at h; exact h.2.1, sl_string hs⟩

/-- What Text answers, leaves; the fault. -/
abbrev textOk (bs : List UInt8) : Prop := 2 ≤ bs.length ∧ 2 + unle (bs.take 2) ≤ bs.length
def textA (bs : List UInt8) : Value → List UInt8
  | .nilIface => if textOk bs then (bs.drop 2).take (unle (bs.take 2)) else []
  | _ => []
def textL (bs : List UInt8) : Value → List UInt8
  | .nilIface => if textOk bs then bs.drop (2 + unle (bs.take 2)) else bs
  | _ => bs
def textF (aS : Addr) (bs : List UInt8) : Value → Value
  | .nilIface => if textOk bs then .nilIface else E aS
  | v => v

set_option maxHeartbeats 400000 in
theorem text_fault (base : Nat) (r : Nat) (bs : List UInt8) (a : Addr) (w : World) (h : Rdr base w r bs (E a)) :
    Calls Tryd.prog 50 #[.pointer (some ⟨r, 0, none⟩)] w fun e w' => e = .returned (.string ⟨#[]⟩) ∧ Rdr base w' r bs (E a) ∧ But r w w' := by
  obtain ⟨v, hs, hh, h0, h1, f0, f1⟩ := rdr_cells h
  have hr := rdr_set_left h (by intro k n e; cases e) hs
  obtain ⟨ao, cap, rfl, _⟩ := hs
  go_enter Tryd.func50, Tryd.ntmps50
  go_wp2_with fail
  refine (whole_fault base r bs _ _ 2 _ h).mono ?_
  rintro e w1 ⟨rfl, rfl⟩
  go_wp2_with fail
  refine (take_fault base r bs _ _ 0 _ h).mono ?_
  rintro e w1 ⟨rfl, rfl⟩
  clear h
  go_wp2
  go_ret
  exact ⟨rfl, hr, But.setCell _ _ _ _⟩
end Go.Proofs.YtcllenlpoknakaaDoor

/- Merged: Make, Text, BkRdP. -/
import Derived.Test.YtooclofdljampaaDoorMiB
import Derived.Lib.SliceRun
set_option linter.unusedVariables false
namespace Go.Proofs.YtooclofdljampaaDoor
open Go Go.RowKit

/-- append(s, x...) where s is an own row of bytes, and x a slice of bytes that is not nil. -/
theorem wpList_append_sl {ops : Array Oper} {rest : List Oper} {o : Oper} {a : Act} {Q : Exit → Act → World → Prop} (w : World) (hgd : o.guard = none) (s x : Operand)
    (ho : o.op = .call { callee := .builtin .append, args := #[s, x], argTypes := #[30, 30] }) (base base' : Nat) (v : Value) (bs cs : List UInt8) (hs : a.eval s = v) (ad : Addr) (c : Nat)
    (hx : a.eval x = .slice (some ad) cs.length c) (how : Own w 5 base v bs) (hsx : Sl base' w (.slice (some ad) cs.length c) cs) (hbase : base ≤ w.heap.size) (hl : bs.length + cs.length ≤ 140737488355000)
    (hK : ∀ v' w', Own w' 5 base v' (bs ++ cs) → Below base w w' → wpList Tryd.prog ops Q rest (a.put o.dst v') w') :
    wpList Tryd.prog ops Q (o :: rest) a w := by
  obtain ⟨i0, hi, hz0, hz1, hz2⟩ := info_parts Tryd.infoU8
  refine wpList_append_own _ hgd s x 30 ho base 5 i0 (.int .u8 0) 1 1 Tryd.underlying30 hi hz0 hz1 hz2 rfl (by decide) v bs.length (Bv bs) hs how ad cs.length c (Bv cs) hx (by simp) ?_ (Bv_one cs) ?_ ?_ hbase ?_
  · intro j u hj
    obtain ⟨ao, cap, hv, _, _, hxx⟩ := hsx
    obtain ⟨b, o, rfl, _, ha⟩ := hxx (by rintro rfl; simp at hj)
    simp only [Value.slice.injEq] at hv
    obtain rfl := Option.some.inj hv.1
    exact ha.add j u hj
  · unfold maxLen; omega
  · omega
  · intro v' w' h1 h2 _
    refine hK v' w' (by simpa [Own] using h1) ((Below.refl base w).grown h2 hbase ?_)
    intro k hk
    exact (World.ownsRow.lt how k hk).1

set_option maxHeartbeats 400000 in
theorem Clone_any (base : Nat) (v : Value) (bs : List UInt8) (w : World) (hs : Sl base w v bs) (hl : bs.length ≤ 140737488351232) :
    Calls Tryd.prog 51 #[v] w fun e w' => ∃ v', e = .returned v' ∧ Sl w.heap.size w' v' bs ∧ Up w w' := by
  have hs0 := hs
  obtain ⟨ao, cap, rfl, hc, hn, hx⟩ := hs
  cases ao with
  | none =>
    have h0 : bs = [] := List.eq_nil_of_length_eq_zero (by have := hn rfl; omega)
    subst h0
    have hq : ∀ u, (binOp .eql 30 (.slice none 0 cap) (.slice none 0 0)).run Tryd.prog u = .ok (.bool true) u := fun u => Lib.run_eql_slice_nil (P := Tryd.prog) u 30 5 none 0 cap 0 0 Tryd.underlying30
    clear hx hs0 hn hc
    go_enter Tryd.func51, Tryd.ntmps51
    go_wp2
    go_ret
    exact ⟨_, rfl, Sl.nil _ _, Up.refl _⟩
  | some ad =>
    have hq : ∀ u, (binOp .eql 30 (.slice (some ad) bs.length cap) (.slice none 0 0)).run Tryd.prog u = .ok (.bool false) u := fun u => Lib.run_eql_slice_nil (P := Tryd.prog) u 30 5 (some ad) bs.length cap 0 0 Tryd.underlying30
    clear hx hn
    go_enter Tryd.func51, Tryd.ntmps51
    go_wp2_with (at_builtin; refine wpList_append_sl _ rfl (.tmp 5) (.tmp 6) rfl w.heap.size base _ [] bs rfl ad cap rfl ?ho (hs0.up ?hu) ?hb ?hl ?_)
    case ho => exact ⟨rfl, .inr ⟨w.heap.size, 0, #[], rfl, Nat.le_refl _, heap_alloc_new _ _, Nat.le_refl _, by unfold maxLen; omega, rfl, rfl⟩⟩
    case hu => exact Up.alloc _ _
    case hb => simp
    case hl => simp; omega
    intro v' w' ho hb
    go_wp2
    go_ret
    exact ⟨_, rfl, ho.sl, Below.trans (Up.alloc w (.cells #[] 5)) hb⟩

set_option maxHeartbeats 400000 in
theorem NewReader_any (base : Nat) (v : Value) (bs : List UInt8) (w : World) (hs : Sl base w v bs) (hl : bs.length ≤ 140737488351232) :
    Calls Tryd.prog 31 #[v] w fun e w' => ∃ r, e = .returned (.pointer (some ⟨r, 0, none⟩)) ∧ w.heap.size ≤ r ∧ Rdr w.heap.size w' r bs .nilIface ∧ Up w w' := by
  go_enter Tryd.func31, Tryd.ntmps31
  go_wp2_with fail
  refine (Clone_any base v bs _ hs hl).mono ?_
  rintro e w1 ⟨v1, rfl, hs1, hu⟩
  have hs2 := hs1
  obtain ⟨ao, cap, rfl, _⟩ := hs1
  go_wp2
  go_ret
  exact ⟨_, rfl, hu.size, ⟨_, heap_alloc_new _ _, hs2.up (Up.alloc _ _)⟩, hu.trans (Up.alloc _ _)⟩

/-! Calls that change nothing. -/
theorem Left_any (base : Nat) (r : Nat) (bs : List UInt8) (fv : Value) (w : World) (h : Rdr base w r bs fv) :
    Calls Tryd.prog 50 #[.pointer (some ⟨r, 0, none⟩)] w fun e w' => e = .returned (.int .i64 bs.length) ∧ w' = w := by
  obtain ⟨v, hs, hh, h0, h1, f0, f1⟩ := rdr_cells h
  obtain ⟨ao, cap, rfl, _⟩ := hs
  clear h
  go_enter Tryd.func50, Tryd.ntmps50
  go_wp2
  go_ret
  exact ⟨rfl, rfl⟩
theorem Err_any (base : Nat) (r : Nat) (bs : List UInt8) (fv : Value) (w : World) (h : Rdr base w r bs fv) :
    Calls Tryd.prog 82 #[.pointer (some ⟨r, 0, none⟩)] w fun e w' => e = .returned fv ∧ w' = w := by
  obtain ⟨v, hs, hh, h0, h1, f0, f1⟩ := rdr_cells h
  clear h
  go_enter Tryd.func82, Tryd.ntmps82
  go_wp2
  go_ret
  exact ⟨rfl, rfl⟩

/-- What End answers. -/
def endF (aF : Addr) (bs : List UInt8) : Value → Value
  | .nilIface => if bs.length = 0 then .nilIface else E aF
  | v => v

/-! Number. -/
theorem numR_ok (aS aF : Addr) (bs : List UInt8) : ∀ i x, i ≤ 9 → x < 2 ^ (7 * i) → (numR aS aF i x bs).1 < 2 ^ 64 ∧ ((numR aS aF i x bs).2.2 = .nilIface ∧ i < (numR aS aF i x bs).2.1 ∧ (numR aS aF i x bs).2.1 ≤ i + bs.length ∨ (numR aS aF i x bs).2.1 = 0 ∧ (numR aS aF i x bs).1 = 0 ∧ ∃ a, (numR aS aF i x bs).2.2 = E a) := by
  induction bs with
  | nil => intro i x _ _; exact ⟨by simp [numR], .inr ⟨rfl, rfl, aS, rfl⟩⟩
  | cons c r ih =>
    intro i x hi hx
    unfold numR
    by_cases hb : (0 < i ∧ c.toNat = 0) ∨ (i = 9 ∧ 1 < c.toNat)
    · rw [if_pos hb]; exact ⟨by simp, .inr ⟨rfl, rfl, aF, rfl⟩⟩
    · rw [if_neg hb]
      have hm : c.toNat % 128 < 128 := Nat.mod_lt _ (by omega)
      have e : 2 ^ (7 * (i + 1)) = 2 ^ (7 * i) * 128 := by rw [show 7 * (i + 1) = 7 * i + 7 by omega, Nat.pow_add]
      have hx' : x + 2 ^ (7 * i) * (c.toNat % 128) < 2 ^ (7 * (i + 1)) := by
        have : 2 ^ (7 * i) * (c.toNat % 128) ≤ 2 ^ (7 * i) * 127 := Nat.mul_le_mul_left _ (by omega)
        omega
      by_cases hs : c.toNat < 128
      · rw [if_pos hs]
        refine ⟨?_, .inl ⟨rfl, Nat.lt_succ_self i, by simp only [List.length_cons]; omega⟩⟩
        show x + 2 ^ (7 * i) * (c.toNat % 128) < 2 ^ 64
        rcases Nat.lt_or_ge i 9 with h9 | h9
        · have : (2 : Nat) ^ (7 * (i + 1)) ≤ 2 ^ 63 := Nat.pow_le_pow_right (by omega) (by omega)
          omega
        · obtain rfl : i = 9 := by omega
          have h1 : c.toNat % 128 ≤ 1 := by omega
          have := Nat.mul_le_mul_left (2 ^ (7 * 9)) h1
          omega
      · rw [if_neg hs]
        have hi9 : i + 1 ≤ 9 := by
          rcases Nat.lt_or_ge i 9 with h9 | h9
          · omega
          · omega
        obtain ⟨h1, h2⟩ := ih (i + 1) _ hi9 hx'
        refine ⟨h1, ?_⟩
        rcases h2 with ⟨a, b, c'⟩ | h2
        · exact .inl ⟨a, by omega, by simp only [List.length_cons]; omega⟩
        · exact .inr h2

def numA (aS aF : Addr) (bs : List UInt8) : Value → Nat
  | .nilIface => (numR aS aF 0 0 bs).1
  | _ => 0
def numL (aS aF : Addr) (bs : List UInt8) : Value → List UInt8
  | .nilIface => bs.drop (numR aS aF 0 0 bs).2.1
  | _ => bs
def numF (aS aF : Addr) (bs : List UInt8) : Value → Value
  | .nilIface => (numR aS aF 0 0 bs).2.2
  | v => v



theorem numF_is (aS aF : Addr) (bs : List UInt8) {fv : Value} (hf : isF fv) : isF (numF aS aF bs fv) := by
  rcases hf with rfl | ⟨x, rfl⟩
  · rcases (numR_ok aS aF bs 0 0 (by omega) (by simp)).2 with h | h
    · exact .inl h.1
    · exact .inr h.2.2
  · exact .inr ⟨x, rfl⟩


/-! Text. -/
theorem sl_string {base : Nat} {w : World} {v : Value} {bs : List UInt8} (hs : Sl base w v bs) : (convert 30 9 v).run Tryd.prog w = .ok (.string ⟨bs.toArray⟩) w := by
  obtain ⟨ao, cap, rfl, _, _, hx⟩ := hs
  by_cases hb : bs = []
  · subst hb
    rw [run_convert_bytes_string (P := Tryd.prog) w 30 9 5 ao _ cap Tryd.underlying30 Tryd.underlying5 Tryd.underlying9]
    cases ao with
    | none => simp [Conv.bytesToString]; rfl
    | some a => 
      show (Conv.bytesToString (.slice (some a) 0 cap)).run Tryd.prog w = _
      rw [run_bytesToString w a 0 cap [] (by simp [loadCells, loadCellsFrom])]
      rfl
  · obtain ⟨b, o, rfl, _, ha⟩ := hx hb
    have h := run_convert_bytes_arg (P := Tryd.prog) w 30 5 Tryd.underlying30 Tryd.underlying5 b o bs.length cap (bs.map fun c => (c.toNat : Int)) (by simp) (by
      intro i hi
      rw [ha i hi]
      simp [List.getD, hi]) 9 Tryd.underlying9
    rw [h]
    have e : strOfNums (bs.map fun c => (c.toNat : Int)) = ⟨bs.toArray⟩ := by
      simp [strOfNums]
      exact (List.map_congr_left (fun c _ => by simp)).trans (List.map_id' bs)
    rw [e]

theorem sl_string' {base : Nat} {w : World} {ao : Option Addr} {n cap : Nat} {bs : List UInt8} (hs : Sl base w (.slice ao n cap) bs) : n = bs.length ∧ (convert 30 9 (.slice ao n cap)).run Tryd.prog w = .ok (.string ⟨bs.toArray⟩) w :=
  ⟨by obtain ⟨a, c, h, _⟩ := hs; simp at h; exact h.2.1, sl_string hs⟩

/-- What Text answers, leaves; the fault. -/
abbrev textOk (bs : List UInt8) : Prop := 2 ≤ bs.length ∧ 2 + unle (bs.take 2) ≤ bs.length
def textA (bs : List UInt8) : Value → List UInt8
  | .nilIface => if textOk bs then (bs.drop 2).take (unle (bs.take 2)) else []
  | _ => []
def textL (bs : List UInt8) : Value → List UInt8
  | .nilIface => if textOk bs then bs.drop (2 + unle (bs.take 2)) else bs
  | _ => bs
def textF (aS : Addr) (bs : List UInt8) : Value → Value
  | .nilIface => if textOk bs then .nilIface else E aS
  | v => v

set_option maxHeartbeats 400000 in
theorem text_fault (base : Nat) (r : Nat) (bs : List UInt8) (a : Addr) (w : World) (h : Rdr base w r bs (E a)) :
    Calls Tryd.prog 81 #[.pointer (some ⟨r, 0, none⟩)] w fun e w' => e = .returned (.string ⟨#[]⟩) ∧ Rdr base w' r bs (E a) ∧ But r w w' := by
  obtain ⟨v, hs, hh, h0, h1, f0, f1⟩ := rdr_cells h
  have hr := rdr_set_left h (by intro k n e; cases e) hs
  obtain ⟨ao, cap, rfl, _⟩ := hs
  go_enter Tryd.func81, Tryd.ntmps81
  go_wp2_with fail
  refine (whole_fault base r bs _ _ 2 _ h).mono ?_
  rintro e w1 ⟨rfl, rfl⟩
  go_wp2_with fail
  refine (take_fault base r bs _ _ 0 _ h).mono ?_
  rintro e w1 ⟨rfl, rfl⟩
  clear h
  go_wp2
  go_ret
  exact ⟨rfl, hr, But.setCell _ _ _ _⟩
end Go.Proofs.YtooclofdljampaaDoor

set_option linter.unusedVariables false
namespace Go.Proofs.YtooclofdljampaaDoor
open Go Go.RowKit

set_option maxHeartbeats 400000 in
/-- Text where the length itself is short. -/
theorem text_short1 (base : Nat) (r : Nat) (bs : List UInt8) (a : Addr) (w : World) (h : Rdr base w r bs .nilIface) (hg : Gl w 1 a) (hn : bs.length < 2) :
    Calls Tryd.prog 81 #[.pointer (some ⟨r, 0, none⟩)] w fun e w' => e = .returned (.string ⟨#[]⟩) ∧ Rdr base w' r bs (E a) ∧ But r w w' := by
  obtain ⟨v, hs, hh, h0, h1, f0, f1⟩ := rdr_cells h
  have hsl := fun w1 (hu : But r w w1) => sl_but hh hs.ne_int (by intro k n e; cases e) hs hu
  obtain ⟨ao, cap, rfl, _⟩ := hs
  go_enter Tryd.func81, Tryd.ntmps81
  go_wp2_with fail
  refine (whole_short base r bs 2 a _ h hg hn).mono ?_
  rintro e w1 ⟨rfl, hr1, hb1⟩
  go_wp2_with fail
  refine (take_fault base r bs _ _ 0 _ hr1).mono ?_
  rintro e w2 ⟨rfl, rfl⟩
  have hr2 := rdr_set_left hr1 (by intro k n e; cases e) (hsl w2 hb1)
  obtain ⟨v1, hs1, hh1, c0, c1, g0, g1⟩ := rdr_cells hr1
  clear h hn hsl hh hh1 h0 h1 f0 f1 hs1 hr1
  go_wp2
  go_ret
  exact ⟨rfl, hr2, hb1.trans (But.setCell _ _ _ _)⟩

set_option maxHeartbeats 400000 in
/-- Text where the bytes are short. -/
theorem text_short2 (base : Nat) (r : Nat) (bs : List UInt8) (a : Addr) (w : World) (h : Rdr base w r bs .nilIface) (hg : Gl w 1 a) (hn : 2 ≤ bs.length) (n : Nat) (hu : Hid (unle (bs.take 2) = n)) (hlt : Hid (n < 65536)) (hn2 : Hid (bs.length < 2 + n)) :
    Calls Tryd.prog 81 #[.pointer (some ⟨r, 0, none⟩)] w fun e w' => e = .returned (.string ⟨#[]⟩) ∧ Rdr base w' r bs (E a) ∧ But r w w' := by
  obtain ⟨v, hs, hh, h0, h1, f0, f1⟩ := rdr_cells h
  have hgr := h.lt
  have hsl := fun w1 (hu : But r w w1) => sl_but hh hs.ne_int (by intro k n e; cases e) hs hu
  have hgl := hg.lt
  have hgne : (1 : Nat) ≠ r := by
    intro e
    obtain ⟨t, hg⟩ := hg
    rw [e, hh] at hg
    simp at hg
  obtain ⟨ao, cap, rfl, _⟩ := hs
  have hw := whole_ok base r bs 2 w h hn (by omega)
  rw [hu.out] at hw
  have hbd : ((n : Nat) : Int) < 9223372036854775807 := by have := hlt.out; omega
  go_enter Tryd.func81, Tryd.ntmps81
  go_wp2_with fail
  refine hw.mono ?_
  rintro e w1 ⟨rfl, hr1, hb1⟩
  have hg1 : Gl w1 1 a := by
    obtain ⟨t, hg⟩ := hg
    exact ⟨t, by rw [hb1.block _ hgl (by simpa using hgne)]; exact hg⟩
  clear hw
  go_wp2_with fail
  refine (take_short base r (bs.drop 2) n a _ hr1 hg1 (by have := hn2.out; simp; omega)).mono ?_
  rintro e w2 ⟨rfl, hr2, hb2⟩
  have hb3 := hb1.trans hb2
  have hr3 := rdr_set_left hr2 (by intro k n e; cases e) (hsl w2 hb3)
  obtain ⟨v1, hs1, hh1, c0, c1, g0, g1⟩ := rdr_cells hr2
  clear h hn hsl hh hh1 h0 h1 f0 f1 hs1 hr1 hr2 hbd hb2 hb1
  go_wp2
  go_ret
  exact ⟨rfl, hr3, hb3.trans (But.setCell _ _ _ _)⟩

set_option maxHeartbeats 400000 in
theorem text_ok (base : Nat) (r : Nat) (bs : List UInt8) (w : World) (h : Rdr base w r bs .nilIface) (hn : 2 ≤ bs.length) (n : Nat) (hu : Hid (unle (bs.take 2) = n)) (hlt : Hid (n < 65536)) (hn2 : Hid (2 + n ≤ bs.length)) :
    Calls Tryd.prog 81 #[.pointer (some ⟨r, 0, none⟩)] w fun e w' => e = .returned (.string ⟨((bs.drop 2).take n).toArray⟩) ∧ Rdr base w' r (bs.drop (2 + n)) .nilIface ∧ But r w w' := by
  have hw := whole_ok base r bs 2 w h hn (by omega)
  rw [hu.out] at hw
  obtain ⟨v, hs, hh, h0, h1, f0, f1⟩ := rdr_cells h
  have hbd : ((n : Nat) : Int) < 9223372036854775807 := by have := hlt.out; omega
  obtain ⟨S, hS⟩ : ∃ S : ByteArray, S = ⟨((bs.drop 2).take n).toArray⟩ := ⟨_, rfl⟩
  rw [← hS]
  have HS : Hid (S = ⟨((bs.drop 2).take n).toArray⟩) := hS
  clear hS
  go_enter Tryd.func81, Tryd.ntmps81
  go_wp2_with fail
  refine hw.mono ?_
  rintro e w1 ⟨rfl, hr1, hb1⟩
  clear hw
  go_wp2_with fail
  refine (take_ok base r (bs.drop 2) n _ hr1 (by have := hn2.out; simp; omega)).mono ?_
  rintro e w2 ⟨v2, rfl, hs2, hr2, hb2⟩
  have hb3 := hb1.trans hb2
  have hst := sl_string hs2
  rw [← HS.out] at hst
  rw [List.drop_drop] at hr2
  obtain ⟨v1, hs1, hh1, c0, c1, g0, g1⟩ := rdr_cells hr2
  obtain ⟨ao, cap, rfl, _⟩ := hs2
  rw [show ((bs.drop 2).take n).length = n by have := hn2.out; simp; omega] at hst ⊢
  clear h hn hh hh1 h0 h1 f0 f1 hs1 hr1 hbd hb2 hb1
  go_wp2
  go_ret
  exact ⟨rfl, hr2, hb3⟩

theorem Text_any (base : Nat) (r : Nat) (bs : List UInt8) (fv : Value) (a : Addr) (w : World) (h : Rdr base w r bs fv) (hf : isF fv) (hg : Gl w 1 a) :
    Calls Tryd.prog 62 #[.pointer (some ⟨r, 0, none⟩)] w fun e w' => e = .returned (.string ⟨(textA bs fv).toArray⟩) ∧ Rdr base w' r (textL bs fv) (textF a bs fv) ∧ But r w w' := by
  have key : Calls Tryd.prog 81 #[.pointer (some ⟨r, 0, none⟩)] w fun e w' => e = .returned (.string ⟨(textA bs fv).toArray⟩) ∧ Rdr base w' r (textL bs fv) (textF a bs fv) ∧ But r w w' := by
    rcases hf with rfl | ⟨x, rfl⟩
    · by_cases h2 : 2 ≤ bs.length
      · have hlt : unle (bs.take 2) < 65536 := by
          have := unle_lt (bs.take 2)
          rw [show (bs.take 2).length = 2 by simp; omega] at this
          omega
        by_cases h3 : 2 + unle (bs.take 2) ≤ bs.length
        · have hok : textOk bs := ⟨h2, h3⟩
          simp only [textA, textL, textF, if_pos hok]
          exact text_ok base r bs w h h2 _ rfl hlt h3
        · have hok : ¬ textOk bs := fun h => h3 h.2
          simp only [textA, textL, textF, if_neg hok]
          exact text_short2 base r bs a w h hg h2 _ rfl hlt (show bs.length < _ by omega)
      · have hok : ¬ textOk bs := fun h => h2 h.1
        simp only [textA, textL, textF, if_neg hok]
        exact text_short1 base r bs a w h hg (by omega)
    · exact text_fault base r bs x w h
  go_enter Tryd.func62, Tryd.ntmps62
  go_wp2_with fail
  refine key.mono ?_
  rintro e w1 ⟨rfl, h1, h2⟩
  clear key
  go_wp2
  go_ret
  exact ⟨rfl, h1, h2⟩

theorem textF_is (a : Addr) (bs : List UInt8) {fv : Value} (hf : isF fv) : isF (textF a bs fv) := by
  rcases hf with rfl | ⟨x, rfl⟩
  · simp only [textF]; split
    · exact .inl rfl
    · exact .inr ⟨a, rfl⟩
  · exact .inr ⟨x, rfl⟩

/-! A reader that is nil. -/
theorem nil_U8 (w : World) : Calls Tryd.prog 63 #[.pointer none] w fun e w' => e = .returned (.int .u8 0) ∧ w' = w := by
  go_enter Tryd.func63, Tryd.ntmps63
  go_wp2
  go_ret
  exact ⟨rfl, rfl⟩
theorem nil_U32 (w : World) : Calls Tryd.prog 47 #[.pointer none] w fun e w' => e = .returned (.int .u32 0) ∧ w' = w := by
  go_enter Tryd.func47, Tryd.ntmps47
  go_wp2
  go_ret
  exact ⟨rfl, rfl⟩
theorem nil_U64 (w : World) : Calls Tryd.prog 46 #[.pointer none] w fun e w' => e = .returned (.int .u64 0) ∧ w' = w := by
  go_enter Tryd.func46, Tryd.ntmps46
  go_wp2
  go_ret
  exact ⟨rfl, rfl⟩
theorem nil_Text (w : World) : Calls Tryd.prog 62 #[.pointer none] w fun e w' => e = .returned (.string ⟨#[]⟩) ∧ w' = w := by
  go_enter Tryd.func62, Tryd.ntmps62
  go_wp2
  go_ret
  exact ⟨rfl, rfl⟩
theorem nil_Left (w : World) : Calls Tryd.prog 50 #[.pointer none] w fun e w' => e = .returned (.int .i64 0) ∧ w' = w := by
  go_enter Tryd.func50, Tryd.ntmps50
  go_wp2
  go_ret
  exact ⟨rfl, rfl⟩
theorem nil_Err (w : World) (a : Addr) (h : Gl w 14 a) : Calls Tryd.prog 82 #[.pointer none] w fun e w' => e = .returned (E a) ∧ w' = w := by
  have hc := h.cell
  go_enter Tryd.func82, Tryd.ntmps82
  go_wp2
  go_ret
  exact ⟨rfl, rfl⟩
end Go.Proofs.YtooclofdljampaaDoor

set_option linter.unusedVariables false
namespace Go.Proofs.YtooclofdljampaaDoor
open Go Go.RowKit

/-- The slice v reads as the bytes bs; they lie in a block from P on. -/
def SlP (P : Nat → Prop) (w : World) (v : Value) (bs : List UInt8) : Prop :=
  ∃ ao cap, v = .slice ao bs.length cap ∧ bs.length ≤ cap ∧ (ao = none → cap = 0) ∧ (bs ≠ [] → ∃ b o, ao = some ⟨b, o, none⟩ ∧ P b ∧ At w b o bs)

theorem SlP.up {P : Nat → Prop} {w w' : World} {v : Value} {bs : List UInt8} (h : SlP P w v bs) (hu : Up w w') : SlP P w' v bs := by
  obtain ⟨ao, cap, rfl, hc, hn, hx⟩ := h
  refine ⟨ao, cap, rfl, hc, hn, fun hb => ?_⟩
  obtain ⟨b, o, rfl, hbb, ha⟩ := hx hb
  exact ⟨b, o, rfl, hbb, ha.up hu⟩

theorem SlP.nil (P : Nat → Prop) (w : World) : SlP P w (.slice none 0 0) [] := ⟨none, 0, rfl, Nat.le_refl _, fun _ => rfl, fun h => absurd rfl h⟩

/-- A reader's block: what is left, and the fault. -/
def RdrP (P : Nat → Prop) (w : World) (r : Nat) (bs : List UInt8) (fv : Value) : Prop :=
  ∃ v, w.heap[r]? = some (.cells #[v, fv] 102 (0, 0)) ∧ SlP P w v bs

theorem RdrP.lt {P : Nat → Prop} {w : World} {r : Nat} {bs : List UInt8} {fv : Value} (h : RdrP P w r bs fv) : r < w.heap.size := by
  obtain ⟨v, h, _⟩ := h
  exact (Array.getElem?_eq_some_iff.1 h).1

theorem RdrP.up {P : Nat → Prop} {w w' : World} {r : Nat} {bs : List UInt8} {fv : Value} (h : RdrP P w r bs fv) (hu : Up w w') : RdrP P w' r bs fv := by
  have hl := h.lt
  obtain ⟨v, h, hs⟩ := h
  exact ⟨v, by rw [hu.block r hl]; exact h, hs.up hu⟩

/-- The bytes of a reader lie in another block than the reader. -/
theorem sl_apartP {P : Nat → Prop} {w : World} {r t : Nat} {bs : List UInt8} {v x fv : Value} (h : w.heap[r]? = some (.cells #[x, fv] t (0, 0))) (hx : ∀ k n, x ≠ .int k n) (hf : ∀ k n, fv ≠ .int k n) (hs : SlP P w v bs) :
    ∀ b o, bs ≠ [] → At w b o bs → b ≠ r := by
  rintro b o hn ha rfl
  have hl : 0 < bs.length := List.length_pos_iff.2 hn
  have := ha 0 hl
  rw [cell_of_row w b _ _ t _ h] at this
  match o, this with
  | 0, this => simp at this; exact hx _ _ this
  | 1, this => simp at this; exact hf _ _ this
  | n + 2, this => simp at this

theorem sl_butP {P : Nat → Prop} {w w' : World} {r t : Nat} {bs : List UInt8} {v x fv : Value} (h : w.heap[r]? = some (.cells #[x, fv] t (0, 0))) (hx : ∀ k n, x ≠ .int k n) (hf : ∀ k n, fv ≠ .int k n) (hs : SlP P w v bs) (hu : But r w w') : SlP P w' v bs := by
  have hap := sl_apartP h hx hf hs
  obtain ⟨ao, cap, rfl, hc, hn, hxx⟩ := hs
  refine ⟨ao, cap, rfl, hc, hn, fun hb => ?_⟩
  obtain ⟨b, o, rfl, hbb, ha⟩ := hxx hb
  exact ⟨b, o, rfl, hbb, ha.but hu (hap b o hb ha)⟩

theorem SlP.ne_int {P : Nat → Prop} {w : World} {v : Value} {bs : List UInt8} (h : SlP P w v bs) : ∀ k n, v ≠ .int k n := by
  obtain ⟨ao, cap, rfl, _⟩ := h
  intro k n e; cases e

/-- b[l:h] of a slice of bytes. -/
theorem sl_cutP {P : Nat → Prop} {w : World} {v : Value} {bs : List UInt8} (hs : SlP P w v bs) (l h : Nat) (hl : l ≤ h) (hh : h ≤ bs.length) :
    ∃ v', SlP P w v' ((bs.drop l).take (h - l)) ∧
      (∀ u, (Instr.slice 30 v (some (.int .i64 (l : Int))) (some (.int .i64 (h : Int))) none).run Tryd.prog u = .ok v' u) ∧
      (l = 0 → ∀ u, (Instr.slice 30 v none (some (.int .i64 (h : Int))) none).run Tryd.prog u = .ok v' u) ∧
      (h = bs.length → ∀ u, (Instr.slice 30 v (some (.int .i64 (l : Int))) none none).run Tryd.prog u = .ok v' u) := by
  obtain ⟨ao, cap, rfl, hc, hn, hx⟩ := hs
  have hu : Tryd.prog.underlying 30 = some (.slice (Tryd.prog.elem 30)) := by rw [elem_bytes]; exact Tryd.underlying30
  refine ⟨sliced ao l h cap 1, ?_, fun u => ?_, ?_, ?_⟩
  · refine ⟨if cap = l then ao else ao.map (·.add (l * 1)), cap - l, ?_, ?_, ?_, ?_⟩
    · simp [sliced]; omega
    · simp; omega
    · intro e
      split at e
      · omega
      · simp at e; have := hn e; omega
    · intro hne
      have hb : bs ≠ [] := by rintro rfl; simp at hne
      obtain ⟨b, o, rfl, hbb, ha⟩ := hx hb
      have hlt : l < h := by
        rcases Nat.lt_or_ge l h with h1 | h1
        · exact h1
        · exact absurd (by rw [show h - l = 0 by omega]; simp) hne
      rw [if_neg (by omega)]
      refine ⟨b, o + l, by simp [Addr.add_lit], hbb, ?_⟩
      intro i hi
      have hi' : i < h - l ∧ l + i < bs.length := by simp at hi; omega
      rw [Nat.add_assoc, ha (l + i) hi'.2]
      simp
  · rw [run_slice_lh u 30 ao _ cap hu .i64 .i64 _ _ (by omega) (by omega) (by omega), elem_bytes, size_u8]
    simp [Result.andThen]
  · rintro rfl u
    rw [run_slice_h u 30 ao _ cap hu .i64 _ (by omega) (by omega), elem_bytes, size_u8]
    simp [Result.andThen]
  · rintro rfl u
    rw [run_slice_l u 30 ao _ cap hu .i64 _ (by omega) (by omega), elem_bytes, size_u8]
    simp [Result.andThen]

/-- What a reader's take leaves: whether it has taken, what is left, the fault. -/
theorem rdr_cellsP {P : Nat → Prop} {w : World} {r : Nat} {bs : List UInt8} {fv : Value} (h : RdrP P w r bs fv) :
    ∃ v, SlP P w v bs ∧ w.heap[r]? = some (.cells #[v, fv] 102 (0, 0)) ∧ w.cell? ⟨r, 0, none⟩ = some v ∧ w.cell? ⟨r, 1, none⟩ = some fv ∧ w.frozen? ⟨r, 0, none⟩ = false ∧ w.frozen? ⟨r, 1, none⟩ = false := by
  obtain ⟨v, h, hs⟩ := h
  refine ⟨v, hs, h, ?_, ?_, ?_, ?_⟩
  · rw [cell_of_row w r 0 _ _ _ h]; rfl
  · rw [cell_of_row w r 1 _ _ _ h]; rfl
  · simp [World.frozen?, h]
  · simp [World.frozen?, h]

theorem rdr_set_faultP {P : Nat → Prop} {w : World} {r : Nat} {bs : List UInt8} {fv : Value} (h : RdrP P w r bs fv) (hf : ∀ k n, fv ≠ .int k n) (u : Value) : RdrP P (w.setCell ⟨r, 1, none⟩ u) r bs u := by
  obtain ⟨v, h, hs⟩ := h
  refine ⟨v, ?_, sl_butP h hs.ne_int hf hs (But.setCell w r 1 u)⟩
  rw [heap_setCell2 w r _ 1 _ u h]; rfl

theorem rdr_set_leftP {P : Nat → Prop} {w : World} {r : Nat} {bs cs : List UInt8} {fv v' : Value} (h : RdrP P w r bs fv) (hf : ∀ k n, fv ≠ .int k n) (hs' : SlP P w v' cs) : RdrP P (w.setCell ⟨r, 0, none⟩ v') r cs fv := by
  obtain ⟨v, h, hs⟩ := h
  refine ⟨v', ?_, sl_butP h hs.ne_int hf hs' (But.setCell w r 0 v')⟩
  rw [heap_setCell2 w r _ 0 _ v' h]; rfl

/-- (*cursor).take behind a fault. -/
theorem take_faultP (P : Nat → Prop) (r : Nat) (bs : List UInt8) (t : TypeId) (x : Value) (n : Nat) (w : World) (h : RdrP P w r bs (.iface t x)) :
    Calls Tryd.prog 80 #[.pointer (some ⟨r, 0, none⟩), .int .i64 n] w fun e w' => e = .returned (.slice none 0 0) ∧ w' = w := by
  obtain ⟨v, hs, hh, h0, h1, f0, f1⟩ := rdr_cellsP h
  clear h
  go_enter Tryd.func80, Tryd.ntmps80
  go_wp2
  go_ret
  exact ⟨rfl, rfl⟩

/-- (*cursor).take where too little is left. -/
theorem take_shortP (P : Nat → Prop) (r : Nat) (bs : List UInt8) (n : Nat) (a : Addr) (w : World) (h : RdrP P w r bs .nilIface) (hg : Gl w 1 a) (hn : bs.length < n) :
    Calls Tryd.prog 80 #[.pointer (some ⟨r, 0, none⟩), .int .i64 n] w fun e w' => e = .returned (.slice none 0 0) ∧ RdrP P w' r bs (E a) ∧ But r w w' := by
  obtain ⟨v, hs, hh, h0, h1, f0, f1⟩ := rdr_cellsP h
  have hr := rdr_set_faultP h (by intro k n e; cases e) (E a)
  obtain ⟨ao, cap, rfl, _⟩ := hs
  have hc := hg.cell
  clear h
  go_enter Tryd.func80, Tryd.ntmps80
  go_wp2
  go_ret
  exact ⟨rfl, hr, But.setCell _ _ _ _⟩

/-- (*cursor).take. -/
theorem take_okP (P : Nat → Prop) (r : Nat) (bs : List UInt8) (n : Nat) (w : World) (h : RdrP P w r bs .nilIface) (hn : n ≤ bs.length) :
    Calls Tryd.prog 80 #[.pointer (some ⟨r, 0, none⟩), .int .i64 n] w fun e w' => ∃ v, e = .returned v ∧ SlP P w' v (bs.take n) ∧ RdrP P w' r (bs.drop n) .nilIface ∧ But r w w' := by
  obtain ⟨v, hs, hh, h0, h1, f0, f1⟩ := rdr_cellsP h
  obtain ⟨v1, hs1, _, hh1, _⟩ := sl_cutP hs 0 n (by omega) hn
  have hcut1 := hh1 rfl
  obtain ⟨v2, hs2, _, _, hh2⟩ := sl_cutP hs n bs.length hn (by omega)
  have hcut2 := hh2 rfl
  clear hh1 hh2
  have hr := rdr_set_leftP h (by intro k n e; cases e) hs2
  rw [List.take_of_length_le (by simp)] at hr
  have hs3 := sl_butP hh hs.ne_int (by intro k n e; cases e) hs1 (But.setCell w r 0 v2)
  simp only [List.drop_zero, Nat.sub_zero] at hs3
  have hx2 := hs2.ne_int
  obtain ⟨ao2, cap2, rfl, _⟩ := hs2
  rw [show ((bs.drop n).take (bs.length - n)).length = bs.length - n by simp] at hcut2 hs3 hr
  obtain ⟨ao, cap, rfl, _⟩ := hs
  clear h
  go_enter Tryd.func80, Tryd.ntmps80
  go_wp2
  go_ret
  exact ⟨_, rfl, hs3, hr, But.setCell _ _ _ _⟩

set_option maxHeartbeats 400000 in
/-- (*cursor).whole behind a fault. -/
theorem whole_faultP (P : Nat → Prop) (r : Nat) (bs : List UInt8) (t : TypeId) (x : Value) (n : Nat) (w : World) (h : RdrP P w r bs (.iface t x)) :
    Calls Tryd.prog 61 #[.pointer (some ⟨r, 0, none⟩), .int .i64 n] w fun e w' => e = .returned (.int .u64 0) ∧ w' = w := by
  go_enter Tryd.func61, Tryd.ntmps61
  go_wp2_with fail
  refine (take_faultP P r bs t x n _ h).mono ?_
  rintro e w1 ⟨rfl, rfl⟩
  go_wp2_with fail
  refine wp_loop_rounds 1 ?_
  rw [rounds_succ]
  go_wp2
  go_ret
  exact ⟨rfl, rfl⟩

set_option maxHeartbeats 400000 in
theorem whole_shortP (P : Nat → Prop) (r : Nat) (bs : List UInt8) (n : Nat) (a : Addr) (w : World) (h : RdrP P w r bs .nilIface) (hg : Gl w 1 a) (hn : bs.length < n) :
    Calls Tryd.prog 61 #[.pointer (some ⟨r, 0, none⟩), .int .i64 n] w fun e w' => e = .returned (.int .u64 0) ∧ RdrP P w' r bs (E a) ∧ But r w w' := by
  go_enter Tryd.func61, Tryd.ntmps61
  go_wp2_with fail
  refine (take_shortP P r bs n a _ h hg hn).mono ?_
  rintro e w1 ⟨rfl, h1, h2⟩
  go_wp2_with fail
  refine wp_loop_rounds 1 ?_
  rw [rounds_succ]
  go_wp2
  go_ret
  exact ⟨rfl, h1, h2⟩

set_option maxHeartbeats 400000 in
theorem whole_okP (P : Nat → Prop) (r : Nat) (bs : List UInt8) (n : Nat) (w : World) (h : RdrP P w r bs .nilIface) (hn : n ≤ bs.length) (h8 : n ≤ 8) :
    Calls Tryd.prog 61 #[.pointer (some ⟨r, 0, none⟩), .int .i64 n] w fun e w' => e = .returned (.int .u64 (unle (bs.take n))) ∧ RdrP P w' r (bs.drop n) .nilIface ∧ But r w w' := by
  go_enter Tryd.func61, Tryd.ntmps61
  go_wp2_with fail
  refine (take_okP P r bs n _ h hn).mono ?_
  rintro e w1 ⟨v1, rfl, hs, h1, h2⟩
  obtain ⟨ao, cap, rfl, _, _, hx⟩ := hs
  have hlen : (bs.take n).length = n := by simp; omega
  rw [hlen]
  go_wp2_with fail
  go_loop [5, 12] (fun x i => ∃ k : Nat, k ≤ n ∧ i = .int .i64 k ∧ x = .int .u64 (unle ((bs.take n).take k))) (fun _ i => n - (intOf i).toNat)
  case atStart => exact ⟨0, Nat.zero_le _, rfl, by simp [unle]⟩
  case round =>
    obtain ⟨k, hk, rfl, rfl⟩ := hrel
    by_cases hlt : k < n
    · obtain ⟨b, o, rfl, _, ha⟩ := hx (by intro e; rw [e] at hlen; simp at hlen; omega)
      have hc := ha k (by omega)
      have hst : Hid (((unle ((bs.take n).take (k + 1)) : Nat) : Int) = bits .or .u64 (unle ((bs.take n).take k)) (IntKind.u64.wrap (IntKind.u64.wrap ((bs[k]'(by omega)).toNat : Int) * 2 ^ (8 * k)))) := by
        have hl := unle_lt ((bs.take n).take k)
        have hkl : ((bs.take n).take k).length = k := by simp; omega
        rw [hkl] at hl
        have h256 : (256 : Nat) ^ k = 2 ^ (8 * k) := by rw [Nat.pow_mul]
        have hb := (bs[k]'(by omega)).toNat_lt
        have hpow : (2 : Nat) ^ (8 * k) ≤ 2 ^ 56 := Nat.pow_le_pow_right (by omega) (by omega)
        have hmul : 2 ^ (8 * k) * (bs[k]'(by omega)).toNat ≤ 2 ^ 56 * 255 := Nat.mul_le_mul hpow (by omega)
        rw [or_place _ _ _ (by rw [← h256]; exact hl) (by omega) (by omega)]
        have e : (bs.take n).take (k + 1) = (bs.take n).take k ++ [bs[k]'(by omega)] := by
          rw [List.take_succ_eq_append_getElem (by omega)]; simp
        rw [e, unle_snoc, hkl, h256]
        rfl
      go_wp2
      go_round
      case rel => exact ⟨k + 1, by omega, by go_num, by rw [hst.out]⟩
      case measure => simp [intOf]; omega
    · obtain rfl : k = n := by omega
      have hfin : Hid (unle ((bs.take k).take k) = unle (bs.take k)) := by rw [List.take_of_length_le (by omega)]; rfl
      go_wp2
      go_ret
      exact ⟨congrArg (fun q : Nat => Ending.returned (.int .u64 (q : Int))) hfin.out, h1, h2⟩

theorem whole_anyP (P : Nat → Prop) (r : Nat) (bs : List UInt8) (fv : Value) (n : Nat) (a : Addr) (w : World) (h : RdrP P w r bs fv) (hf : isF fv) (hg : Gl w 1 a) (h8 : n ≤ 8) :
    Calls Tryd.prog 61 #[.pointer (some ⟨r, 0, none⟩), .int .i64 n] w fun e w' => e = .returned (.int .u64 (wholeA n bs fv)) ∧ RdrP P w' r (wholeL n bs fv) (wholeF a n bs fv) ∧ But r w w' := by
  rcases hf with rfl | ⟨x, rfl⟩
  · by_cases hn : n ≤ bs.length
    · simp only [wholeA, wholeL, wholeF, if_pos hn]
      exact whole_okP P r bs n w h hn h8
    · simp only [wholeA, wholeL, wholeF, if_neg hn]
      exact whole_shortP P r bs n a w h hg (by omega)
  · refine (whole_faultP P r bs _ _ n w h).mono ?_
    rintro e w' ⟨rfl, rfl⟩
    exact ⟨rfl, h, But.refl _ _⟩

theorem U64_anyP (P : Nat → Prop) (r : Nat) (bs : List UInt8) (fv : Value) (a : Addr) (w : World) (h : RdrP P w r bs fv) (hf : isF fv) (hg : Gl w 1 a) :
    Calls Tryd.prog 46 #[.pointer (some ⟨r, 0, none⟩)] w fun e w' => e = .returned (.int .u64 (wholeA 8 bs fv)) ∧ RdrP P w' r (wholeL 8 bs fv) (wholeF a 8 bs fv) ∧ But r w w' := by
  go_enter Tryd.func46, Tryd.ntmps46
  go_wp2_with fail
  refine (whole_anyP P r bs fv 8 a _ h hf hg (by omega)).mono ?_
  rintro e w1 ⟨rfl, h1, h2⟩
  go_wp2
  go_ret
  exact ⟨rfl, h1, h2⟩

theorem U32_anyP (P : Nat → Prop) (r : Nat) (bs : List UInt8) (fv : Value) (a : Addr) (w : World) (h : RdrP P w r bs fv) (hf : isF fv) (hg : Gl w 1 a) :
    Calls Tryd.prog 47 #[.pointer (some ⟨r, 0, none⟩)] w fun e w' => e = .returned (.int .u32 (wholeA 4 bs fv)) ∧ RdrP P w' r (wholeL 4 bs fv) (wholeF a 4 bs fv) ∧ But r w w' := by
  have hlt := wholeA_lt 4 bs fv
  go_enter Tryd.func47, Tryd.ntmps47
  go_wp2_with fail
  refine (whole_anyP P r bs fv 4 a _ h hf hg (by omega)).mono ?_
  rintro e w1 ⟨rfl, h1, h2⟩
  go_wp2
  go_ret
  exact ⟨rfl, h1, h2⟩


theorem U8_anyP (P : Nat → Prop) (r : Nat) (bs : List UInt8) (fv : Value) (a : Addr) (w : World) (h : RdrP P w r bs fv) (hf : isF fv) (hg : Gl w 1 a) :
    Calls Tryd.prog 63 #[.pointer (some ⟨r, 0, none⟩)] w fun e w' => e = .returned (.int .u8 (wholeA 1 bs fv)) ∧ RdrP P w' r (wholeL 1 bs fv) (wholeF a 1 bs fv) ∧ But r w w' := by
  have hlt := wholeA_lt 1 bs fv
  go_enter Tryd.func63, Tryd.ntmps63
  go_wp2_with fail
  refine (whole_anyP P r bs fv 1 a _ h hf hg (by omega)).mono ?_
  rintro e w1 ⟨rfl, h1, h2⟩
  go_wp2
  go_ret
  exact ⟨rfl, h1, h2⟩

theorem Left_anyP (P : Nat → Prop) (r : Nat) (bs : List UInt8) (fv : Value) (w : World) (h : RdrP P w r bs fv) :
    Calls Tryd.prog 50 #[.pointer (some ⟨r, 0, none⟩)] w fun e w' => e = .returned (.int .i64 bs.length) ∧ w' = w := by
  obtain ⟨v, hs, hh, h0, h1, f0, f1⟩ := rdr_cellsP h
  obtain ⟨ao, cap, rfl, _⟩ := hs
  clear h
  go_enter Tryd.func50, Tryd.ntmps50
  go_wp2
  go_ret
  exact ⟨rfl, rfl⟩

theorem Err_anyP (P : Nat → Prop) (r : Nat) (bs : List UInt8) (fv : Value) (w : World) (h : RdrP P w r bs fv) :
    Calls Tryd.prog 82 #[.pointer (some ⟨r, 0, none⟩)] w fun e w' => e = .returned fv ∧ w' = w := by
  obtain ⟨v, hs, hh, h0, h1, f0, f1⟩ := rdr_cellsP h
  clear h
  go_enter Tryd.func82, Tryd.ntmps82
  go_wp2
  go_ret
  exact ⟨rfl, rfl⟩

theorem sl_stringP {P : Nat → Prop} {w : World} {v : Value} {bs : List UInt8} (hs : SlP P w v bs) : (convert 30 9 v).run Tryd.prog w = .ok (.string ⟨bs.toArray⟩) w := by
  obtain ⟨ao, cap, rfl, _, _, hx⟩ := hs
  by_cases hb : bs = []
  · subst hb
    rw [run_convert_bytes_string (P := Tryd.prog) w 30 9 5 ao _ cap Tryd.underlying30 Tryd.underlying5 Tryd.underlying9]
    cases ao with
    | none => simp [Conv.bytesToString]; rfl
    | some a => 
      show (Conv.bytesToString (.slice (some a) 0 cap)).run Tryd.prog w = _
      rw [run_bytesToString w a 0 cap [] (by simp [loadCells, loadCellsFrom])]
      rfl
  · obtain ⟨b, o, rfl, _, ha⟩ := hx hb
    have h := run_convert_bytes_arg (P := Tryd.prog) w 30 5 Tryd.underlying30 Tryd.underlying5 b o bs.length cap (bs.map fun c => (c.toNat : Int)) (by simp) (by
      intro i hi
      rw [ha i hi]
      simp [List.getD, hi]) 9 Tryd.underlying9
    rw [h]
    have e : strOfNums (bs.map fun c => (c.toNat : Int)) = ⟨bs.toArray⟩ := by
      simp [strOfNums]
      exact (List.map_congr_left (fun c _ => by simp)).trans (List.map_id' bs)
    rw [e]

set_option maxHeartbeats 400000 in
theorem text_faultP (P : Nat → Prop) (r : Nat) (bs : List UInt8) (a : Addr) (w : World) (h : RdrP P w r bs (E a)) :
    Calls Tryd.prog 81 #[.pointer (some ⟨r, 0, none⟩)] w fun e w' => e = .returned (.string ⟨#[]⟩) ∧ RdrP P w' r bs (E a) ∧ But r w w' := by
  obtain ⟨v, hs, hh, h0, h1, f0, f1⟩ := rdr_cellsP h
  have hr := rdr_set_leftP h (by intro k n e; cases e) hs
  obtain ⟨ao, cap, rfl, _⟩ := hs
  go_enter Tryd.func81, Tryd.ntmps81
  go_wp2_with fail
  refine (whole_faultP P r bs _ _ 2 _ h).mono ?_
  rintro e w1 ⟨rfl, rfl⟩
  go_wp2_with fail
  refine (take_faultP P r bs _ _ 0 _ h).mono ?_
  rintro e w1 ⟨rfl, rfl⟩
  clear h
  go_wp2
  go_ret
  exact ⟨rfl, hr, But.setCell _ _ _ _⟩

set_option maxHeartbeats 400000 in
/-- Text where the length itself is short. -/
theorem text_short1P (P : Nat → Prop) (r : Nat) (bs : List UInt8) (a : Addr) (w : World) (h : RdrP P w r bs .nilIface) (hg : Gl w 1 a) (hn : bs.length < 2) :
    Calls Tryd.prog 81 #[.pointer (some ⟨r, 0, none⟩)] w fun e w' => e = .returned (.string ⟨#[]⟩) ∧ RdrP P w' r bs (E a) ∧ But r w w' := by
  obtain ⟨v, hs, hh, h0, h1, f0, f1⟩ := rdr_cellsP h
  have hsl := fun w1 (hu : But r w w1) => sl_butP hh hs.ne_int (by intro k n e; cases e) hs hu
  obtain ⟨ao, cap, rfl, _⟩ := hs
  go_enter Tryd.func81, Tryd.ntmps81
  go_wp2_with fail
  refine (whole_shortP P r bs 2 a _ h hg hn).mono ?_
  rintro e w1 ⟨rfl, hr1, hb1⟩
  go_wp2_with fail
  refine (take_faultP P r bs _ _ 0 _ hr1).mono ?_
  rintro e w2 ⟨rfl, rfl⟩
  have hr2 := rdr_set_leftP hr1 (by intro k n e; cases e) (hsl w2 hb1)
  obtain ⟨v1, hs1, hh1, c0, c1, g0, g1⟩ := rdr_cellsP hr1
  clear h hn hsl hh hh1 h0 h1 f0 f1 hs1 hr1
  go_wp2
  go_ret
  exact ⟨rfl, hr2, hb1.trans (But.setCell _ _ _ _)⟩

set_option maxHeartbeats 400000 in
/-- Text where the bytes are short. -/
theorem text_short2P (P : Nat → Prop) (r : Nat) (bs : List UInt8) (a : Addr) (w : World) (h : RdrP P w r bs .nilIface) (hg : Gl w 1 a) (hn : 2 ≤ bs.length) (n : Nat) (hu : Hid (unle (bs.take 2) = n)) (hlt : Hid (n < 65536)) (hn2 : Hid (bs.length < 2 + n)) :
    Calls Tryd.prog 81 #[.pointer (some ⟨r, 0, none⟩)] w fun e w' => e = .returned (.string ⟨#[]⟩) ∧ RdrP P w' r bs (E a) ∧ But r w w' := by
  obtain ⟨v, hs, hh, h0, h1, f0, f1⟩ := rdr_cellsP h
  have hgr := h.lt
  have hsl := fun w1 (hu : But r w w1) => sl_butP hh hs.ne_int (by intro k n e; cases e) hs hu
  have hgl := hg.lt
  have hgne : (1 : Nat) ≠ r := by
    intro e
    obtain ⟨t, hg⟩ := hg
    rw [e, hh] at hg
    simp at hg
  obtain ⟨ao, cap, rfl, _⟩ := hs
  have hw := whole_okP P r bs 2 w h hn (by omega)
  rw [hu.out] at hw
  have hbd : ((n : Nat) : Int) < 9223372036854775807 := by have := hlt.out; omega
  go_enter Tryd.func81, Tryd.ntmps81
  go_wp2_with fail
  refine hw.mono ?_
  rintro e w1 ⟨rfl, hr1, hb1⟩
  have hg1 : Gl w1 1 a := by
    obtain ⟨t, hg⟩ := hg
    exact ⟨t, by rw [hb1.block _ hgl (by simpa using hgne)]; exact hg⟩
  clear hw
  go_wp2_with fail
  refine (take_shortP P r (bs.drop 2) n a _ hr1 hg1 (by have := hn2.out; simp; omega)).mono ?_
  rintro e w2 ⟨rfl, hr2, hb2⟩
  have hb3 := hb1.trans hb2
  have hr3 := rdr_set_leftP hr2 (by intro k n e; cases e) (hsl w2 hb3)
  obtain ⟨v1, hs1, hh1, c0, c1, g0, g1⟩ := rdr_cellsP hr2
  clear h hn hsl hh hh1 h0 h1 f0 f1 hs1 hr1 hr2 hbd hb2 hb1
  go_wp2
  go_ret
  exact ⟨rfl, hr3, hb3.trans (But.setCell _ _ _ _)⟩

set_option maxHeartbeats 400000 in
theorem text_okP (P : Nat → Prop) (r : Nat) (bs : List UInt8) (w : World) (h : RdrP P w r bs .nilIface) (hn : 2 ≤ bs.length) (n : Nat) (hu : Hid (unle (bs.take 2) = n)) (hlt : Hid (n < 65536)) (hn2 : Hid (2 + n ≤ bs.length)) :
    Calls Tryd.prog 81 #[.pointer (some ⟨r, 0, none⟩)] w fun e w' => e = .returned (.string ⟨((bs.drop 2).take n).toArray⟩) ∧ RdrP P w' r (bs.drop (2 + n)) .nilIface ∧ But r w w' := by
  have hw := whole_okP P r bs 2 w h hn (by omega)
  rw [hu.out] at hw
  obtain ⟨v, hs, hh, h0, h1, f0, f1⟩ := rdr_cellsP h
  have hbd : ((n : Nat) : Int) < 9223372036854775807 := by have := hlt.out; omega
  obtain ⟨S, hS⟩ : ∃ S : ByteArray, S = ⟨((bs.drop 2).take n).toArray⟩ := ⟨_, rfl⟩
  rw [← hS]
  have HS : Hid (S = ⟨((bs.drop 2).take n).toArray⟩) := hS
  clear hS
  go_enter Tryd.func81, Tryd.ntmps81
  go_wp2_with fail
  refine hw.mono ?_
  rintro e w1 ⟨rfl, hr1, hb1⟩
  clear hw
  go_wp2_with fail
  refine (take_okP P r (bs.drop 2) n _ hr1 (by have := hn2.out; simp; omega)).mono ?_
  rintro e w2 ⟨v2, rfl, hs2, hr2, hb2⟩
  have hb3 := hb1.trans hb2
  have hst := sl_stringP hs2
  rw [← HS.out] at hst
  rw [List.drop_drop] at hr2
  obtain ⟨v1, hs1, hh1, c0, c1, g0, g1⟩ := rdr_cellsP hr2
  obtain ⟨ao, cap, rfl, _⟩ := hs2
  rw [show ((bs.drop 2).take n).length = n by have := hn2.out; simp; omega] at hst ⊢
  clear h hn hh hh1 h0 h1 f0 f1 hs1 hr1 hbd hb2 hb1
  go_wp2
  go_ret
  exact ⟨rfl, hr2, hb3⟩

theorem Text_anyP (P : Nat → Prop) (r : Nat) (bs : List UInt8) (fv : Value) (a : Addr) (w : World) (h : RdrP P w r bs fv) (hf : isF fv) (hg : Gl w 1 a) :
    Calls Tryd.prog 62 #[.pointer (some ⟨r, 0, none⟩)] w fun e w' => e = .returned (.string ⟨(textA bs fv).toArray⟩) ∧ RdrP P w' r (textL bs fv) (textF a bs fv) ∧ But r w w' := by
  have key : Calls Tryd.prog 81 #[.pointer (some ⟨r, 0, none⟩)] w fun e w' => e = .returned (.string ⟨(textA bs fv).toArray⟩) ∧ RdrP P w' r (textL bs fv) (textF a bs fv) ∧ But r w w' := by
    rcases hf with rfl | ⟨x, rfl⟩
    · by_cases h2 : 2 ≤ bs.length
      · have hlt : unle (bs.take 2) < 65536 := by
          have := unle_lt (bs.take 2)
          rw [show (bs.take 2).length = 2 by simp; omega] at this
          omega
        by_cases h3 : 2 + unle (bs.take 2) ≤ bs.length
        · have hok : textOk bs := ⟨h2, h3⟩
          simp only [textA, textL, textF, if_pos hok]
          exact text_okP P r bs w h h2 _ rfl hlt h3
        · have hok : ¬ textOk bs := fun h => h3 h.2
          simp only [textA, textL, textF, if_neg hok]
          exact text_short2P P r bs a w h hg h2 _ rfl hlt (show bs.length < _ by omega)
      · have hok : ¬ textOk bs := fun h => h2 h.1
        simp only [textA, textL, textF, if_neg hok]
        exact text_short1P P r bs a w h hg (by omega)
    · exact text_faultP P r bs x w h
  go_enter Tryd.func62, Tryd.ntmps62
  go_wp2_with fail
  refine key.mono ?_
  rintro e w1 ⟨rfl, h1, h2⟩
  clear key
  go_wp2
  go_ret
  exact ⟨rfl, h1, h2⟩

end Go.Proofs.YtooclofdljampaaDoor

/- Merged: Puts, Number, RefPut. -/
import Derived.Test.YtooclofdljampaaDoorLib
import Derived.Test.YtooclofdljampaaDoorProg
set_option linter.unusedVariables false
namespace Go.Proofs.YtooclofdljampaaDoor
open Go Go.RowKit

theorem Tryd.infoU8 : (Tryd.prog.info? 5).map (fun i => (i.zero, i.size, i.bytes)) = some (some (.int .u8 0), 1, 1) := by kernel_rfl

/-- A copy into the head of a row that was just made. -/
theorem copy_head (v : Value) (bs : List UInt8) (cap : Nat) (w : World) (hs : Sl 0 w v bs) (hcap : bs.length ≤ cap) (hm : cap ≤ maxLen) :
    ∃ w1, (Builtin.copy_ #[30, 30] 3 #[.slice (some ⟨w.heap.size, 0, none⟩) bs.length cap, v]).run Tryd.prog (w.alloc (.cells (madeCells #[.int .u8 0] cap) 5)) = .ok (.int .i64 bs.length) w1 ∧
      Own w1 5 w.heap.size (.slice (some ⟨w.heap.size, 0, none⟩) bs.length cap) bs ∧ Up w w1 := by
  obtain ⟨i0, hi, hz0, hz1, hz2⟩ := info_parts Tryd.infoU8
  have hsz : (Tryd.prog.info? 5).map (·.size) = some 1 := by rw [hi]; simp [hz1]
  obtain ⟨ao, c, rfl, hc, hn, hx⟩ := hs
  have hnew := heap_alloc_new w (.cells (madeCells #[.int .u8 0] cap) 5)
  have hup := Up.alloc w (.cells (madeCells #[.int .u8 0] cap) 5)
  by_cases hb : bs = []
  · subst hb
    refine ⟨w.alloc (.cells (madeCells #[.int .u8 0] cap) 5), ?_, ⟨by simp, .inr ⟨w.heap.size, cap, _, rfl, Nat.le_refl _, hnew, by simp, hm, by simp [size_madeCells], by simp⟩⟩, hup⟩
    cases ao with
    | none =>
      obtain rfl := hn rfl
      exact run_copy_nil (P := Tryd.prog) _ _ _ _ _ _ _ _ Tryd.underlying30 (by rw [hsz]; rfl)
    | some a =>
      have h := run_copy_row (P := Tryd.prog) (w.alloc (.cells (madeCells #[.int .u8 0] cap) 5)) 30 30 3 5 w.heap.size 0 0 cap a 0 c (madeCells #[.int .u8 0] cap) 5 [] Tryd.underlying30 hsz hnew (by simp) (by simp) (by simp) (by simp)
      rw [show (madeCells #[Value.int .u8 0] cap).toList.take 0 ++ [] ++ (madeCells #[Value.int .u8 0] cap).toList.drop (0 + ([] : List Value).length) = (madeCells #[Value.int .u8 0] cap).toList by simp, Array.toArray_toList, setRow_self _ _ _ _ _ hnew] at h
      exact h
  · obtain ⟨b, o, rfl, _, ha⟩ := hx hb
    have ha1 := ha.up hup
    have h := run_copy_row (P := Tryd.prog) (w.alloc (.cells (madeCells #[.int .u8 0] cap) 5)) 30 30 3 5 w.heap.size 0 bs.length cap ⟨b, o, none⟩ bs.length c (madeCells #[.int .u8 0] cap) 5 (Bv bs) Tryd.underlying30 hsz hnew (by simp) ha1.add (by simp [size_madeCells]; omega) (Bv_one bs)
    rw [show goInt (Bv bs).length = .int .i64 bs.length by simp [goInt]] at h
    refine ⟨_, h, ⟨by simp, .inr ⟨w.heap.size, cap, _, rfl, Nat.le_refl _, setRow_heap _ _ _ _ _ _ hnew, hcap, hm, ?_, ?_⟩⟩, ?_⟩
    · simp [size_madeCells]; omega
    · simp
    · exact ⟨rfl, rfl, rfl, by simp, fun k hk => (setRow_other _ _ _ _ (by omega)).trans (heap_alloc_old _ _ hk)⟩

set_option maxHeartbeats 400000 in
theorem copyWithRoom_any (v : Value) (bs : List UInt8) (room : Nat) (w : World) (hs : Sl 0 w v bs) (hl : bs.length ≤ 140737488351232) (hr : room ≤ 1000000) :
    Calls Tryd.prog 58 #[v, .int .i64 room] w fun e w' => ∃ v', e = .returned v' ∧ Own w' 5 w.heap.size v' bs ∧ Up w w' := by
  obtain ⟨i0, hi, hz0, hz1, hz2⟩ := info_parts Tryd.infoU8
  obtain ⟨w1, hcp, ho, hu⟩ := copy_head v bs (bs.length + room) w hs (by omega) (by unfold maxLen; omega)
  obtain ⟨ao, cap, rfl, hc, hn, hx⟩ := hs
  have hmk : ∀ u : World, (Instr.makeSlice 30 (.int .i64 (bs.length : Int)) (.int .i64 ((bs.length : Int) + room))).run Tryd.prog u =
      .ok (.slice (some ⟨u.heap.size, 0, none⟩) bs.length (bs.length + room)) (u.alloc (.cells (madeCells #[.int .u8 0] (bs.length + room)) 5)) := fun u => by
    have h := run_make (P := Tryd.prog) u 30 5 i0 (.int .u8 0) Tryd.underlying30 hi hz0 .i64 .i64 (bs.length : Int) ((bs.length : Int) + room) (by omega) (by omega) (by rw [hz2]; omega) (by omega)
    have e : ((bs.length : Int) + room).toNat = bs.length + room := by omega
    rw [e] at h
    simpa [hz1, Value.cells] using h
  go_enter Tryd.func58, Tryd.ntmps58
  go_wp2
  go_ret
  exact ⟨_, rfl, ho, hu⟩

/-- The n lowest bytes of x, the lowest first. -/
def le : Nat → Nat → List UInt8
  | 0, _ => []
  | n + 1, x => UInt8.ofNat x :: le n (x / 256)

theorem le_length (n x : Nat) : (le n x).length = n := by induction n generalizing x with
  | zero => rfl
  | succ n ih => simp [le, ih]

theorem le_snoc (n x : Nat) : le (n + 1) x = le n x ++ [UInt8.ofNat (x / 256 ^ n)] := by
  induction n generalizing x with
  | zero => simp [le]
  | succ n ih =>
    rw [le, ih, le]
    simp [Nat.div_div_eq_div_mul, Nat.pow_succ, Nat.mul_comm]

/-- append(s, x) where s is an own row of bytes, and x the one byte of a new block. -/
theorem wpList_push {ops : Array Oper} {rest : List Oper} {o : Oper} {a : Act} {Q : Exit → Act → World → Prop} (w : World) (hgd : o.guard = none) (s x : Operand)
    (ho : o.op = .call { callee := .builtin .append, args := #[s, x], argTypes := #[30, 30] }) (base : Nat) (v : Value) (bs : List UInt8) (hs : a.eval s = v) (q : Int)
    (hx : a.eval x = .slice (some ⟨w.heap.size, 0, none⟩) 1 1) (how : Own w 5 base v bs) (hbase : base ≤ w.heap.size) (hl : bs.length ≤ 140737488355000) (c : UInt8) (hc : q = c.toNat)
    (hK : ∀ v' w', Own w' 5 base v' (bs ++ [c]) → Below base w w' → wpList Tryd.prog ops Q rest (a.put o.dst v') w') :
    wpList Tryd.prog ops Q (o :: rest) a (w.alloc (.cells #[.int .u8 q] 5)) := by
  obtain ⟨i0, hi, hz0, hz1, hz2⟩ := info_parts Tryd.infoU8
  subst hc
  refine wpList_append_own _ hgd s x 30 ho base 5 i0 (.int .u8 0) 1 1 Tryd.underlying30 hi hz0 hz1 hz2 rfl (by decide) v bs.length (Bv bs) hs (how.alloc _) ⟨w.heap.size, 0, none⟩ 1 1 [B c] hx rfl ?_ ?_ ?_ ?_ ?_ ?_
  · intro j u hj
    match j, hj with
    | 0, hj => simp at hj; subst hj; rw [Addr.add_lit, cell_of_row _ _ _ _ _ _ (heap_alloc_new _ _)]; rfl
  · intro u hu; simp at hu; subst hu; rfl
  · unfold maxLen; omega
  · omega
  · simp; omega
  · intro v' w' h1 h2 _
    refine hK v' w' (by simpa [Own] using h1) (((Below.refl base w).alloc hbase _).grown h2 (by simp; omega) ?_)
    intro k hk
    exact (World.ownsRow.lt how k hk).1

set_option maxHeartbeats 400000 in
theorem appendWhole_any (base : Nat) (v : Value) (bs : List UInt8) (x n : Nat) (w : World) (hs : Own w 5 base v bs) (hb : base ≤ w.heap.size) (hl : bs.length ≤ 140737488351232) (hn : n ≤ 8) (hx : x < 2 ^ 64) :
    Calls Tryd.prog 57 #[v, .int .u64 x, .int .i64 n] w fun e w' => ∃ v', e = .returned v' ∧ Own w' 5 base v' (bs ++ le n x) ∧ Below base w w' := by
  obtain ⟨i0, hi, hz0, hz1, hz2⟩ := info_parts Tryd.infoU8
  go_enter Tryd.func57, Tryd.ntmps57
  go_wp2
  go_loopw [0, 1, 8] (fun s y i wr => ∃ k : Nat, k ≤ n ∧ i = .int .i64 k ∧ y = .int .u64 ((x / 256 ^ k : Nat) : Int) ∧ Own wr 5 base s (bs ++ le k x) ∧ Below base w wr) (fun _ _ i _ => n - (intOf i).toNat)
  case atStart => exact ⟨0, Nat.zero_le _, rfl, by simp, by simpa [le] using hs, Below.refl _ _⟩
  case round =>
    obtain ⟨k, hk, rfl, rfl, ho, hbl⟩ := hrel
    by_cases hlt : k < n
    · go_wp2_with (at_builtin; refine wpList_push _ rfl (.tmp 10) (.tmp 13) rfl base _ _ rfl _ rfl ho ?hb ?hl (UInt8.ofNat (x / 256 ^ k)) ?hc ?_)
      case hb => have := hbl.size; omega
      case hl => have := le_length k x; simp; omega
      case hc => simp
      intro v' w' ho' hb'
      go_wp2
      go_roundw
      case rel =>
        rw [← le_snoc] at ho'
        exact ⟨k + 1, by omega, by go_num, by rw [Nat.pow_succ, ← Nat.div_div_eq_div_mul]; simp, ho', hbl.trans hb'⟩
      case measure => simp [intOf]; omega
    · obtain rfl : k = n := by omega
      go_wp2
      go_ret
      exact ⟨_, rfl, ho, hbl⟩

set_option maxHeartbeats 400000 in
theorem putWhole_any (v : Value) (bs : List UInt8) (x n : Nat) (w : World) (hs : Sl 0 w v bs) (hl : bs.length ≤ 140737488351232) (hn : n ≤ 8) (hx : x < 2 ^ 64) :
    Calls Tryd.prog 41 #[v, .int .u64 x, .int .i64 n] w fun e w' => ∃ v', e = .returned v' ∧ Own w' 5 w.heap.size v' (bs ++ le n x) ∧ Up w w' := by
  go_enter Tryd.func41, Tryd.ntmps41
  go_wp2_with fail
  refine (copyWithRoom_any v bs n _ hs hl (by omega)).mono ?_
  rintro e w1 ⟨v1, rfl, ho, hu⟩
  go_wp2_with fail
  refine (appendWhole_any w.heap.size v1 bs x n _ ho hu.size hl hn hx).mono ?_
  rintro e w2 ⟨v2, rfl, ho2, hb2⟩
  go_wp2
  go_ret
  exact ⟨_, rfl, ho2, Below.trans hu hb2⟩

theorem PutU64_any (v : Value) (bs : List UInt8) (x : Nat) (w : World) (hs : Sl 0 w v bs) (hl : bs.length ≤ 140737488351232) (hx : x < 2 ^ 64) :
    Calls Tryd.prog 24 #[v, .int .u64 x] w fun e w' => ∃ v', e = .returned v' ∧ Own w' 5 w.heap.size v' (bs ++ le 8 x) ∧ Up w w' := by
  go_enter Tryd.func24, Tryd.ntmps24
  go_wp2_with fail
  refine (putWhole_any v bs x 8 _ hs hl (by omega) hx).mono ?_
  rintro e w1 ⟨v1, rfl, ho, hu⟩
  go_wp2
  go_ret
  exact ⟨_, rfl, ho, hu⟩

theorem PutU32_any (v : Value) (bs : List UInt8) (x : Nat) (w : World) (hs : Sl 0 w v bs) (hl : bs.length ≤ 140737488351232) (hx : x < 2 ^ 32) :
    Calls Tryd.prog 25 #[v, .int .u32 x] w fun e w' => ∃ v', e = .returned v' ∧ Own w' 5 w.heap.size v' (bs ++ le 4 x) ∧ Up w w' := by
  go_enter Tryd.func25, Tryd.ntmps25
  go_wp2_with fail
  refine (putWhole_any v bs x 4 _ hs hl (by omega) (by omega)).mono ?_
  rintro e w1 ⟨v1, rfl, ho, hu⟩
  go_wp2
  go_ret
  exact ⟨_, rfl, ho, hu⟩

end Go.Proofs.YtooclofdljampaaDoor

namespace Go.Proofs.YtooclofdljampaaDoor
open Go Go.RowKit

/-- x in groups of seven bits, the lowest first; f: so many groups at the most. -/
def vnF : Nat → Nat → List UInt8
  | 0, _ => []
  | f + 1, x => if x < 128 then [UInt8.ofNat x] else UInt8.ofNat (x % 128 + 128) :: vnF f (x / 128)
def vn (x : Nat) : List UInt8 := vnF 10 x

theorem vnF_length (f x : Nat) : (vnF f x).length ≤ f := by
  induction f generalizing x with
  | zero => simp [vnF]
  | succ f ih => have := ih (x / 128); unfold vnF; split <;> simp <;> omega

/-- What PutNumber's loop keeps: done is put, y is left, in f + 1 groups at the most. -/
def NumInv (x f y : Nat) (done : List UInt8) : Prop := f ≤ 9 ∧ y < 128 ^ (f + 1) ∧ done.length + f ≤ 9 ∧ vn x = done ++ vnF (f + 1) y

theorem NumInv.start (x : Nat) (hx : x < 2 ^ 64) : NumInv x 9 x [] := ⟨by omega, by omega, by simp, rfl⟩
theorem NumInv.next {x f y : Nat} {done : List UInt8} (h : NumInv x f y done) (hy : 128 ≤ y) : NumInv x (f - 1) (y / 128) (done ++ [UInt8.ofNat (y % 128 + 128)]) := by
  obtain ⟨h1, h2, h3, h4⟩ := h
  cases f with
  | zero => omega
  | succ f =>
    refine ⟨by omega, ?_, by simp; omega, ?_⟩
    · rw [Nat.pow_succ] at h2
      simpa using Nat.div_lt_of_lt_mul (by rwa [Nat.mul_comm] at h2)
    · rw [h4, vnF, if_neg (by omega)]
      simp
theorem NumInv.done {x f y : Nat} {done : List UInt8} (h : NumInv x f y done) (hy : y < 128) : vn x = done ++ [UInt8.ofNat y] := by
  rw [h.2.2.2, vnF, if_pos hy]
theorem NumInv.len {x f y : Nat} {done : List UInt8} (h : NumInv x f y done) : done.length ≤ 9 := by have := h.2.2.1; omega

theorem or128_fin : ∀ a : Fin 256, bits .or .u8 (a.val : Int) 128 = ((a.val % 128 + 128 : Nat) : Int) := by decide +kernel
theorem or128_any (y : Nat) : bits .or .u8 ((y : Int) % 256) 128 = ((y % 128 + 128 : Nat) : Int) := by
  have h := or128_fin ⟨y % 256, Nat.mod_lt _ (by omega)⟩
  have e : (((y % 256 : Nat)) : Int) = (y : Int) % 256 := by omega
  simp only [e] at h
  rw [h]
  congr 1
  omega

end Go.Proofs.YtooclofdljampaaDoor

set_option linter.unusedVariables false
namespace Go.Proofs.YtooclofdljampaaDoor
open Go Go.RowKit

/-- A row of n bytes at the head of block g, the first k of them those of bs. -/
def Fill (w : World) (g n k : Nat) (bs : List UInt8) : Prop := ∃ cur, w.heap[g]? = some (.cells cur 5 (0, 0)) ∧ cur.size = n ∧ cur.toList.take k = Bv (bs.take k)

theorem Fill.cell {w : World} {g n k : Nat} {bs : List UInt8} (h : Fill w g n k bs) (hk : k < n) : (∃ v, w.cell? ⟨g, k, none⟩ = some v) ∧ w.frozen? ⟨g, k, none⟩ = false := by
  obtain ⟨cur, h1, h2, _⟩ := h
  refine ⟨⟨cur[k]'(by omega), ?_⟩, by simp [World.frozen?, h1]⟩
  rw [cell_of_row w g k cur _ _ h1]
  simp [h2, hk]

theorem Fill.next {w : World} {g n k : Nat} {bs : List UInt8} (h : Fill w g n k bs) (hk : k < n) (hn : n = bs.length) : Fill (w.setCell ⟨g, k, none⟩ (B (bs[k]'(by omega)))) g n (k + 1) bs := by
  obtain ⟨cur, h1, h2, h3⟩ := h
  refine ⟨cur.setIfInBounds k (B (bs[k]'(by omega))), ?_, by simp [h2], ?_⟩
  · rw [setCell_eq_setRow w g k cur 5 (0, 0) _ h1]
    exact setRow_heap w g cur _ _ _ h1
  · have hk2 : k < bs.length := by omega
    rw [Array.toList_setIfInBounds]
    apply List.ext_getElem?
    intro i
    by_cases hi : i < k
    · have := congrArg (·[i]?) h3
      simp only [List.getElem?_take, if_pos hi] at this
      simp only [List.getElem?_take, if_pos (show i < k + 1 by omega), List.getElem?_set_ne (show k ≠ i by omega), this]
      simp [hi, show i < k + 1 by omega]
    · by_cases he : i = k
      · subst he
        simp [h2, hk, hk2]
      · simp [List.getElem?_take, show ¬ i < k + 1 by omega]

theorem Fill.own {w : World} {g n : Nat} {bs : List UInt8} (h : Fill w g n n bs) (hn : n = bs.length) (hm : n ≤ maxLen) (base : Nat) (hb : base ≤ g) : Own w 5 base (.slice (some ⟨g, 0, none⟩) n n) bs := by
  obtain ⟨cur, h1, h2, h3⟩ := h
  subst hn
  refine ⟨by simp, .inr ⟨g, bs.length, cur, rfl, hb, h1, Nat.le_refl _, hm, by simp [h2], ?_⟩⟩
  rw [List.take_length] at h3
  simpa using h3




end Go.Proofs.YtooclofdljampaaDoor

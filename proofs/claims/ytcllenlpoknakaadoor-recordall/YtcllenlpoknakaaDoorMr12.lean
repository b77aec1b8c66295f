/- Merged: PlVal, Puts. -/
import Derived.Test.YtcllenlpoknakaaDoorMr11
import Derived.Test.YtcllenlpoknakaaDoorMr04
import Derived.Test.YtcllenlpoknakaaDoorProg
set_option linter.unusedVariables false
namespace Go.Proofs.YtcllenlpoknakaaDoor
open Go Go.RowKit

set_option maxHeartbeats 1600000 in
theorem Valid_kind (k : Int) (g s l p f0 f1 f2 f3 f4 f5 : Nat) (R : Value) (o : Bool) (hR : R = (if o then .agg #[fnV f0, fnV f1, fnV f2, fnV f3, fnV f4, fnV f5] else Rule0))
    (kr : ∀ w, Calls Tryd.prog 47 #[Pv k g s l p] w fun e w' => e = .returned (.tuple #[R, .bool o]) ∧ Up w w') (w : World) :
    Calls Tryd.prog 25 #[Pv k g s l p] w fun e w' => e = .returned (.bool o) ∧ Up w w' := by
  cases o
  · obtain rfl : R = Rule0 := hR
    go_enter Tryd.func25, Tryd.ntmps25
    go_wp2_with fail
    refine (kr _).mono ?_
    rintro e w1 ⟨rfl, u1⟩
    go_wp2
    go_ret
    exact ⟨rfl, (Up.alloc _ _).trans (u1.trans (Up.alloc _ _))⟩
  · obtain rfl : R = .agg #[fnV f0, fnV f1, fnV f2, fnV f3, fnV f4, fnV f5] := hR
    go_enter Tryd.func25, Tryd.ntmps25
    go_wp2_with fail
    refine (kr _).mono ?_
    rintro e w1 ⟨rfl, u1⟩
    go_wp2
    go_ret
    exact ⟨rfl, (Up.alloc _ _).trans (u1.trans (Up.alloc _ _))⟩

structure Pol.Ok (P : Pol) : Prop where
  g : N64 P.g
  s : N64 P.s
  l : N64 P.l
  p : N64 P.p
structure Lev.Ok (v : Lev) : Prop where
  t : N64 v.t
  i : N64 v.i
  c : N64 v.c
abbrev PP (P : Pol) : Value := Pv P.k P.g P.s P.l P.p
abbrev LL (v : Lev) : Value := Lv v.t v.i v.c

theorem ruleOf_F (P : Pol) (h : P.F) (w : World) : Calls Tryd.prog 47 #[PP P] w fun e w' => e = .returned (.tuple #[RuleF, .bool true]) ∧ Up w w' := by
  obtain ⟨k, g, s, l, p⟩ := P
  obtain ⟨h1, h2, h3, h4⟩ := h
  simp only at h1 h2 h3 h4
  subst h1 h3 h4
  exact ruleOf_flow g s 0 0 true (by simp; omega) w
theorem ruleOf_G (P : Pol) (h : P.G) (w : World) : Calls Tryd.prog 47 #[PP P] w fun e w' => e = .returned (.tuple #[RuleG, .bool true]) ∧ Up w w' := by
  obtain ⟨k, g, s, l, p⟩ := P
  obtain ⟨h1, h2, h3, h4⟩ := h
  simp only at h1 h2 h3 h4
  subst h1 h3 h4
  exact ruleOf_grid 0 0 l p true (by simp; omega) w
theorem ruleOf_none (P : Pol) (hF : ¬ P.F) (hG : ¬ P.G) (w : World) : Calls Tryd.prog 47 #[PP P] w fun e w' => e = .returned (.tuple #[Rule0, .bool false]) ∧ Up w w' := by
  obtain ⟨k, g, s, l, p⟩ := P
  unfold Pol.F at hF
  unfold Pol.G at hG
  simp only at hF hG
  have : k < 1 ∨ 2 < k ∨ k = 1 ∨ k = 2 := by omega
  rcases this with h | h | h | h
  · exact ruleOf_less k g s l p h w
  · exact ruleOf_more k g s l p h w
  · subst h
    exact ruleOf_flow g s l p false (by simp; omega) w
  · subst h
    exact ruleOf_grid g s l p false (by simp; omega) w

theorem valid_call (P : Pol) (w : World) : Calls Tryd.prog 25 #[PP P] w fun e w' => e = .returned (.bool (pValid P)) ∧ Up w w' := by
  by_cases hF : P.F
  · rw [show pValid P = true from decide_eq_true (Or.inl hF)]
    exact Valid_kind _ _ _ _ _ _ _ _ _ _ _ _ true rfl (ruleOf_F P hF) w
  · by_cases hG : P.G
    · rw [show pValid P = true from decide_eq_true (Or.inr hG)]
      exact Valid_kind _ _ _ _ _ _ _ _ _ _ _ _ true rfl (ruleOf_G P hG) w
    · rw [show pValid P = false from decide_eq_false (fun h => h.elim hF hG)]
      exact Valid_kind _ _ _ _ _ 0 0 0 0 0 0 _ false rfl (ruleOf_none P hF hG) w
end Go.Proofs.YtcllenlpoknakaaDoor

set_option linter.unusedVariables false
namespace Go.Proofs.YtcllenlpoknakaaDoor
open Go Go.RowKit

theorem Tryd.infoU8 : (Tryd.prog.info? 5).map (fun i => (i.zero, i.size, i.bytes)) = some (some (.int .u8 0), 1, 1) := by kernel_rfl

/-- A copy into the head of a row that was just made. -/
theorem copy_head (v : Value) (bs : List UInt8) (cap : Nat) (w : World) (hs : Sl 0 w v bs) (hcap : bs.length ≤ cap) (hm : cap ≤ maxLen) :
    ∃ w1, (Builtin.copy_ #[33, 33] 3 #[.slice (some ⟨w.heap.size, 0, none⟩) bs.length cap, v]).run Tryd.prog (w.alloc (.cells (madeCells #[.int .u8 0] cap) 5)) = .ok (.int .i64 bs.length) w1 ∧
      Own w1 5 w.heap.size (.slice (some ⟨w.heap.size, 0, none⟩) bs.length cap) bs ∧ Up w w1 := by
  obtain ⟨i0, hi, hz0, hz1, hz2⟩ := info_parts Tryd.infoU8
  have hsz : (Tryd.prog.info? 5).map (·.size) = some 1 := by rw [hi]; simp [hz1]
  obtain ⟨ao, c, rfl, hc, hn, hx⟩ := hs
  have hnew := heap_alloc_new w (.cells (madeCells #[.int .u8 0] cap) 5)
  have hup := Up.alloc w (.cells (madeCells #[.int .u8 0] cap) 5)
  by_cases hb : bs = []
  · subst hb
    refine ⟨w.alloc (.cells (madeCells #[.int .u8 0] cap) 5), ?_, ⟨by simp, .inr ⟨w.heap.size, cap, _, rfl, Nat.le_refl _, hnew, by simp, hm, by simp [size_madeCells], by simp⟩⟩, hup⟩
    cases ao with
    | none =>
      obtain rfl := hn rfl
      exact run_copy_nil (P := Tryd.prog) _ _ _ _ _ _ _ _ Tryd.underlying33 (by rw [hsz]; rfl)
    | some a =>
      have h := run_copy_row (P := Tryd.prog) (w.alloc (.cells (madeCells #[.int .u8 0] cap) 5)) 33 33 3 5 w.heap.size 0 0 cap a 0 c (madeCells #[.int .u8 0] cap) 5 [] Tryd.underlying33 hsz hnew (by simp) (by simp) (by simp) (by simp)
      rw [show (madeCells #[Value.int .u8 0] cap).toList.take 0 ++ [] ++ (madeCells #[Value.int .u8 0] cap).toList.drop (0 + ([] : List Value).length) = (madeCells #[Value.int .u8 0] cap).toList by simp, Array.toArray_toList, setRow_self _ _ _ _ _ hnew] at h
      exact h
  · obtain ⟨b, o, rfl, _, ha⟩ := hx hb
    have ha1 := ha.up hup
    have h := run_copy_row (P := Tryd.prog) (w.alloc (.cells (madeCells #[.int .u8 0] cap) 5)) 33 33 3 5 w.heap.size 0 bs.length cap ⟨b, o, none⟩ bs.length c (madeCells #[.int .u8 0] cap) 5 (Bv bs) Tryd.underlying33 hsz hnew (by simp) ha1.add (by simp [size_madeCells]; omega) (Bv_one bs)
    rw [show goInt (Bv bs).length = .int .i64 bs.length by simp [goInt]] at h
    refine ⟨_, h, ⟨by simp, .inr ⟨w.heap.size, cap, _, rfl, Nat.le_refl _, setRow_heap _ _ _ _ _ _ hnew, hcap, hm, ?_, ?_⟩⟩, ?_⟩
    · simp [size_madeCells]; omega
    · simp
    · exact ⟨rfl, rfl, rfl, by simp, fun k hk => (setRow_other _ _ _ _ (by omega)).trans (heap_alloc_old _ _ hk)⟩

set_option maxHeartbeats 400000 in
theorem copyWithRoom_any (v : Value) (bs : List UInt8) (room : Nat) (w : World) (hs : Sl 0 w v bs) (hl : bs.length ≤ 140737488351232) (hr : room ≤ 1000000) :
    Calls Tryd.prog 45 #[v, .int .i64 room] w fun e w' => ∃ v', e = .returned v' ∧ Own w' 5 w.heap.size v' bs ∧ Up w w' := by
  obtain ⟨i0, hi, hz0, hz1, hz2⟩ := info_parts Tryd.infoU8
  obtain ⟨w1, hcp, ho, hu⟩ := copy_head v bs (bs.length + room) w hs (by omega) (by unfold maxLen; omega)
  obtain ⟨ao, cap, rfl, hc, hn, hx⟩ := hs
  have hmk : ∀ u : World, (Instr.makeSlice 33 (.int .i64 (bs.length : Int)) (.int .i64 ((bs.length : Int) + room))).run Tryd.prog u =
      .ok (.slice (some ⟨u.heap.size, 0, none⟩) bs.length (bs.length + room)) (u.alloc (.cells (madeCells #[.int .u8 0] (bs.length + room)) 5)) := fun u => by
    have h := run_make (P := Tryd.prog) u 33 5 i0 (.int .u8 0) Tryd.underlying33 hi hz0 .i64 .i64 (bs.length : Int) ((bs.length : Int) + room) (by omega) (by omega) (by rw [hz2]; omega) (by omega)
    have e : ((bs.length : Int) + room).toNat = bs.length + room := by omega
    rw [e] at h
    simpa [hz1, Value.cells] using h
  go_enter Tryd.func45, Tryd.ntmps45
  go_wp2
  go_ret
  exact ⟨_, rfl, ho, hu⟩

/-- The n lowest bytes of x, the lowest first. -/
def le : Nat → Nat → List UInt8
  | 0, _ => []
  | n + 1, x => UInt8.ofNat x :: le n (x / 256)

theorem le_length (n x : Nat) : (le n x).length = n := by induction n generalizing x with
  | zero => rfl
  | succ n ih => simp [le, ih]

theorem le_snoc (n x : Nat) : le (n + 1) x = le n x ++ [UInt8.ofNat (x / 256 ^ n)] := by
  induction n generalizing x with
  | zero => simp [le]
  | succ n ih =>
    rw [le, ih, le]
    simp [Nat.div_div_eq_div_mul, Nat.pow_succ, Nat.mul_comm]

/-- append(s, x) where s is an own row of bytes, and x the one byte of a new block. -/
theorem wpList_push {ops : Array Oper} {rest : List Oper} {o : Oper} {a : Act} {Q : Exit → Act → World → Prop} (w : World) (hgd : o.guard = none) (s x : Operand)
    (ho : o.op = .call { callee := .builtin .append, args := #[s, x], argTypes := #[33, 33] }) (base : Nat) (v : Value) (bs : List UInt8) (hs : a.eval s = v) (q : Int)
    (hx : a.eval x = .slice (some ⟨w.heap.size, 0, none⟩) 1 1) (how : Own w 5 base v bs) (hbase : base ≤ w.heap.size) (hl : bs.length ≤ 140737488355000) (c : UInt8) (hc : q = c.toNat)
    (hK : ∀ v' w', Own w' 5 base v' (bs ++ [c]) → Below base w w' → wpList Tryd.prog ops Q rest (a.put o.dst v') w') :
    wpList Tryd.prog ops Q (o :: rest) a (w.alloc (.cells #[.int .u8 q] 5)) := by
  obtain ⟨i0, hi, hz0, hz1, hz2⟩ := info_parts Tryd.infoU8
  subst hc
  refine wpList_append_own _ hgd s x 33 ho base 5 i0 (.int .u8 0) 1 1 Tryd.underlying33 hi hz0 hz1 hz2 rfl (by decide) v bs.length (Bv bs) hs (how.alloc _) ⟨w.heap.size, 0, none⟩ 1 1 [B c] hx rfl ?_ ?_ ?_ ?_ ?_ ?_
  · intro j u hj
    match j, hj with
    | 0, hj => simp at hj; subst hj; rw [Addr.add_lit, cell_of_row _ _ _ _ _ _ (heap_alloc_new _ _)]; rfl
  · intro u hu; simp at hu; subst hu; rfl
  · unfold maxLen; omega
  · omega
  · simp; omega
  · intro v' w' h1 h2 _
    refine hK v' w' (by simpa [Own] using h1) (((Below.refl base w).alloc hbase _).grown h2 (by simp; omega) ?_)
    intro k hk
    exact (World.ownsRow.lt how k hk).1

set_option maxHeartbeats 400000 in
theorem appendWhole_any (base : Nat) (v : Value) (bs : List UInt8) (x n : Nat) (w : World) (hs : Own w 5 base v bs) (hb : base ≤ w.heap.size) (hl : bs.length ≤ 140737488351232) (hn : n ≤ 8) (hx : x < 2 ^ 64) :
    Calls Tryd.prog 46 #[v, .int .u64 x, .int .i64 n] w fun e w' => ∃ v', e = .returned v' ∧ Own w' 5 base v' (bs ++ le n x) ∧ Below base w w' := by
  obtain ⟨i0, hi, hz0, hz1, hz2⟩ := info_parts Tryd.infoU8
  go_enter Tryd.func46, Tryd.ntmps46
  go_wp2
  go_loopw [0, 1, 8] (fun s y i wr => ∃ k : Nat, k ≤ n ∧ i = .int .i64 k ∧ y = .int .u64 ((x / 256 ^ k : Nat) : Int) ∧ Own wr 5 base s (bs ++ le k x) ∧ Below base w wr) (fun _ _ i _ => n - (intOf i).toNat)
  case atStart => exact ⟨0, Nat.zero_le _, rfl, by simp, by simpa [le] using hs, Below.refl _ _⟩
  case round =>
    obtain ⟨k, hk, rfl, rfl, ho, hbl⟩ := hrel
    by_cases hlt : k < n
    · go_wp2_with (at_builtin; refine wpList_push _ rfl (.tmp 10) (.tmp 13) rfl base _ _ rfl _ rfl ho ?hb ?hl (UInt8.ofNat (x / 256 ^ k)) ?hc ?_)
      case hb => have := hbl.size; omega
      case hl => have := le_length k x; simp; omega
      case hc => simp
      intro v' w' ho' hb'
      go_wp2
      go_roundw
      case rel =>
        rw [← le_snoc] at ho'
        exact ⟨k + 1, by omega, by go_num, by rw [Nat.pow_succ, ← Nat.div_div_eq_div_mul]; simp, ho', hbl.trans hb'⟩
      case measure => simp [intOf]; omega
    · obtain rfl : k = n := by omega
      go_wp2
      go_ret
      exact ⟨_, rfl, ho, hbl⟩

set_option maxHeartbeats 400000 in
theorem putWhole_any (v : Value) (bs : List UInt8) (x n : Nat) (w : World) (hs : Sl 0 w v bs) (hl : bs.length ≤ 140737488351232) (hn : n ≤ 8) (hx : x < 2 ^ 64) :
    Calls Tryd.prog 44 #[v, .int .u64 x, .int .i64 n] w fun e w' => ∃ v', e = .returned v' ∧ Own w' 5 w.heap.size v' (bs ++ le n x) ∧ Up w w' := by
  go_enter Tryd.func44, Tryd.ntmps44
  go_wp2_with fail
  refine (copyWithRoom_any v bs n _ hs hl (by omega)).mono ?_
  rintro e w1 ⟨v1, rfl, ho, hu⟩
  go_wp2_with fail
  refine (appendWhole_any w.heap.size v1 bs x n _ ho hu.size hl hn hx).mono ?_
  rintro e w2 ⟨v2, rfl, ho2, hb2⟩
  go_wp2
  go_ret
  exact ⟨_, rfl, ho2, Below.trans hu hb2⟩

theorem PutU64_any (v : Value) (bs : List UInt8) (x : Nat) (w : World) (hs : Sl 0 w v bs) (hl : bs.length ≤ 140737488351232) (hx : x < 2 ^ 64) :
    Calls Tryd.prog 21 #[v, .int .u64 x] w fun e w' => ∃ v', e = .returned v' ∧ Own w' 5 w.heap.size v' (bs ++ le 8 x) ∧ Up w w' := by
  go_enter Tryd.func21, Tryd.ntmps21
  go_wp2_with fail
  refine (putWhole_any v bs x 8 _ hs hl (by omega) hx).mono ?_
  rintro e w1 ⟨v1, rfl, ho, hu⟩
  go_wp2
  go_ret
  exact ⟨_, rfl, ho, hu⟩


end Go.Proofs.YtcllenlpoknakaaDoor

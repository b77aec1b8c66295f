/- Merged: PutText, RcVal, RcOk. -/
import Derived.Test.YtcllenlpoknakaaDoorMr13
import Derived.Lib.AppendStr
import Derived.Deep.QuietTactic
import Derived.BigQuiet
import Derived.Test.YtcllenlpoknakaaDoorMr03
import Derived.Test.YtcllenlpoknakaaDoorMr12
set_option linter.unusedVariables false
namespace Go.Proofs.YtcllenlpoknakaaDoor
open Go Go.RowKit

/-- The bytes of a string. -/
abbrev Sb (s : ByteArray) : List UInt8 := s.data.toList

theorem Sb_len (s : ByteArray) : (Sb s).length = s.size := by rw [Array.length_toList]; rfl

theorem strCells_eq (s : ByteArray) : Lib.strCells s = Bv (Sb s) := by
  simp [Lib.strCells]

/-- append(b, s...) of a string, onto an own row. -/
theorem wpList_append_str {ops : Array Oper} {rest : List Oper} {o : Oper} {a : Act} {Q : Exit → Act → World → Prop} (w : World) (hgd : o.guard = none) (sl x : Operand)
    (ho : o.op = .call { callee := .builtin .append, args := #[sl, x], argTypes := #[33, 9] }) (base : Nat) (v : Value) (bs : List UInt8) (s : ByteArray) (hs : a.eval sl = v) (hx : a.eval x = .string s)
    (how : Own w 5 base v bs) (hbase : base ≤ w.heap.size) (hl : bs.length + s.size ≤ 140737488355000)
    (hK : ∀ v' w', Own w' 5 base v' (bs ++ Sb s) → Below base w w' → wpList Tryd.prog ops Q rest (a.put o.dst v') w') : wpList Tryd.prog ops Q (o :: rest) a w := by
  obtain ⟨i0, hi, hz0, hz1, hz2⟩ := info_parts Tryd.infoU8
  refine Lib.wpList_append_own_string w hgd sl x 33 9 ho base 5 i0 Tryd.underlying33 Tryd.underlying9 hi hz0 hz1 hz2 v bs.length (Bv bs) hs how s hx ?_ ?_ hbase ?_
  · unfold maxLen; omega
  · omega
  · intro v' w' h1 h2 _
    rw [strCells_eq] at h1
    refine hK v' w' (by simpa [Own, Sb_len] using h1) ((Below.refl base w).grown h2 hbase ?_)
    intro k hk
    exact (World.ownsRow.lt how k hk).1

set_option maxHeartbeats 800000 in
theorem PutText_ok (v : Value) (bs : List UInt8) (s : ByteArray) (w : World) (hs : Sl 0 w v bs) (hl : bs.length ≤ 140737400000000) (hn : (s.size : Int) ≤ 65535) :
    Calls Tryd.prog 22 #[v, .string s] w fun e w' => ∃ v', e = .returned (.tuple #[v', .nilIface]) ∧ Own w' 5 w.heap.size v' (bs ++ le 2 s.size ++ Sb s) ∧ Up w w' := by
  go_enter Tryd.func22, Tryd.ntmps22
  go_wp2_with fail
  rw [show (2 : Int) + (s.size : Int) = ((2 + s.size : Nat) : Int) from by omega]
  refine (copyWithRoom_any v bs (2 + s.size) _ hs (by omega) (by omega)).mono ?_
  rintro e w1 ⟨v1, rfl, ho1, hu1⟩
  go_wp2_with fail
  refine (appendWhole_any w.heap.size v1 bs s.size 2 _ ho1 hu1.size (by omega) (by omega) (by omega)).mono ?_
  rintro e w2 ⟨v2, rfl, ho2, hb2⟩
  have hlen : (bs ++ le 2 s.size).length = bs.length + 2 := by simp [le_length]
  go_wp2_with (at_builtin; refine wpList_append_str _ rfl (.tmp 21) (.tmp 22) rfl w.heap.size _ _ s rfl rfl ho2 ?hb ?hl ?_)
  case hb => have := hu1.size; have := hb2.size; omega
  case hl => omega
  intro v' w' ho' hb'
  go_wp2
  go_ret2
  exact ⟨_, rfl, by simpa using ho', (Below.trans hu1 hb2).trans hb'⟩

set_option maxHeartbeats 400000 in
theorem PutText_long (v : Value) (s : ByteArray) (a : Addr) (w : World) (hg : Gl w 3 a) (hn : (65535 : Int) < (s.size : Int)) :
    Calls Tryd.prog 22 #[v, .string s] w fun e w' => e = .returned (.tuple #[.slice none 0 0, E a]) ∧ Up w w' := by
  have hc := hg.cell
  go_enter Tryd.func22, Tryd.ntmps22
  go_wp2_with fail
  go_quiet (fail)
  go_wp2
  go_ret2
  exact ⟨rfl, below_drewN (Up.refl w) _⟩


end Go.Proofs.YtcllenlpoknakaaDoor

set_option linter.unusedVariables false
set_option linter.unusedSimpArgs false
namespace Go.Proofs.YtcllenlpoknakaaDoor
open Go Go.RowKit

abbrev RcV (k : Int) (f : Nat) (S : ByteArray) (pk : Int) (g s l p t i c : Nat) : Value := .agg #[.int .i64 k, V f, .string S, .int .i64 pk, V g, V s, V l, V p, V t, V i, V c]
/-- A record as a value. -/
abbrev RV (r : RecV) : Value := RcV r.kind r.floor ⟨r.key.toArray⟩ r.pk r.gap r.slack r.limit r.span r.tat r.idx r.cnt

theorem policy_zero (k : Int) (g s l p : Nat) (u : World) : (binOp .eql 28 (.agg #[.int .i64 k, V g, V s, V l, V p]) (.agg #[.int .i64 0, Z, Z, Z, Z])).run Tryd.prog u = .ok (.bool (decide (k = 0 ∧ g = 0 ∧ s = 0 ∧ l = 0 ∧ p = 0))) u := by
  by_cases h0 : k = 0 <;> by_cases h1 : g = 0 <;> by_cases h2 : s = 0 <;> by_cases h3 : l = 0 <;> by_cases h4 : p = 0 <;> simp [go_sem, h0, h1, h2, h3, h4] <;> omega
theorem level_zero (a b c : Nat) (u : World) : (binOp .eql 30 (.agg #[V a, V b, V c]) (.agg #[Z, Z, Z])).run Tryd.prog u = .ok (.bool (decide (a = 0 ∧ b = 0 ∧ c = 0))) u := by
  by_cases h1 : a = 0 <;> by_cases h2 : b = 0 <;> by_cases h3 : c = 0 <;> simp [go_sem, h1, h2, h3] <;> omega

set_option maxHeartbeats 800000 in
theorem ofOneRule_any (t i c : Nat) (w : World) : Calls Tryd.prog 26 #[Lv t i c] w fun e w' => e = .returned (.bool (decide (t = 0 ∨ i = 0 ∧ c = 0))) ∧ Up w w' := by
  obtain ⟨o, ho⟩ : ∃ o, decide (t = 0 ∨ i = 0 ∧ c = 0) = o := ⟨_, rfl⟩
  rw [ho]
  replace ho : Hid (decide (t = 0 ∨ i = 0 ∧ c = 0) = o) := ho
  by_cases h1 : t = 0
  · have hfin : o = true := by rw [← ho.out]; simp [h1]
    clear ho
    subst h1 hfin
    go_enter Tryd.func26, Tryd.ntmps26
    go_wp2
    go_ret
    exact ⟨rfl, Up.alloc _ _⟩
  · have e1 : ((t : Int) == 0) = false := by simp; omega
    by_cases h2 : i = 0
    · by_cases h3 : c = 0
      · have hfin : o = true := by rw [← ho.out]; simp [h2, h3]
        clear ho h1
        subst h2 h3 hfin
        go_enter Tryd.func26, Tryd.ntmps26
        go_wp2
        go_ret
        exact ⟨rfl, Up.alloc _ _⟩
      · have hfin : o = false := by rw [← ho.out]; simp [h1, h3]
        have e3 : ((c : Int) == 0) = false := by simp; omega
        clear ho h1 h3
        subst h2 hfin
        go_enter Tryd.func26, Tryd.ntmps26
        go_wp2
        go_ret
        exact ⟨rfl, Up.alloc _ _⟩
    · have hfin : o = false := by rw [← ho.out]; simp [h1, h2]
      have e2 : ((i : Int) == 0) = false := by simp; omega
      clear ho h1 h2
      subst hfin
      go_enter Tryd.func26, Tryd.ntmps26
      go_wp2
      go_ret
      exact ⟨rfl, Up.alloc _ _⟩
end Go.Proofs.YtcllenlpoknakaaDoor

set_option linter.unusedVariables false
set_option linter.unusedSimpArgs false
namespace Go.Proofs.YtcllenlpoknakaaDoor
open Go Go.RowKit

theorem RValid_none (k : Int) (f : Nat) (S : ByteArray) (pk : Int) (g s l p t i c : Nat) (h : ((S.size : Int) == 0) = true) (w : World) :
    Calls Tryd.prog 13 #[RcV k f S pk g s l p t i c] w fun e w' => e = .returned (.bool false) ∧ Up w w' := by
  go_enter Tryd.func13, Tryd.ntmps13
  go_wp2
  go_ret
  exact ⟨rfl, Up.alloc _ _⟩
theorem RValid_long (k : Int) (f : Nat) (S : ByteArray) (pk : Int) (g s l p t i c : Nat) (h : ((S.size : Int) == 0) = false) (h64 : (64 : Int) < (S.size : Int)) (w : World) :
    Calls Tryd.prog 13 #[RcV k f S pk g s l p t i c] w fun e w' => e = .returned (.bool false) ∧ Up w w' := by
  go_enter Tryd.func13, Tryd.ntmps13
  go_wp2
  go_ret
  exact ⟨rfl, Up.alloc _ _⟩

set_option maxHeartbeats 800000 in
theorem RValid_k1 (f : Nat) (S : ByteArray) (pk : Int) (g s l p t i c : Nat) (oP oL oV : Bool) (h : ((S.size : Int) == 0) = false) (h64 : ¬ (64 : Int) < (S.size : Int))
    (hP : ∀ u, (binOp .eql 28 (.agg #[.int .i64 pk, V g, V s, V l, V p]) (.agg #[.int .i64 0, Z, Z, Z, Z])).run Tryd.prog u = .ok (.bool oP) u)
    (hL : ∀ u, (binOp .eql 30 (.agg #[V t, V i, V c]) (.agg #[Z, Z, Z])).run Tryd.prog u = .ok (.bool oL) u)
    (hV : ∀ w, Calls Tryd.prog 25 #[Pv pk g s l p] w fun e w' => e = .returned (.bool oV) ∧ Up w w') (w : World) :
    Calls Tryd.prog 13 #[RcV 1 f S pk g s l p t i c] w fun e w' => e = .returned (.bool (oV && oL)) ∧ Up w w' := by
  cases oV
  all_goals
    go_enter Tryd.func13, Tryd.ntmps13
    go_wp2
    go_quiet (fail)
    go_wp2_with fail
    refine (hV _).mono ?_
    rintro e w1 ⟨rfl, u1⟩
    go_wp2
    go_ret
    exact ⟨rfl, (Up.alloc _ _).trans ((up_drewN _ _).trans u1)⟩
set_option maxHeartbeats 800000 in
theorem RValid_k2 (f : Nat) (S : ByteArray) (pk : Int) (g s l p t i c : Nat) (oP oL : Bool) (h : ((S.size : Int) == 0) = false) (h64 : ¬ (64 : Int) < (S.size : Int))
    (hP : ∀ u, (binOp .eql 28 (.agg #[.int .i64 pk, V g, V s, V l, V p]) (.agg #[.int .i64 0, Z, Z, Z, Z])).run Tryd.prog u = .ok (.bool oP) u)
    (hL : ∀ u, (binOp .eql 30 (.agg #[V t, V i, V c]) (.agg #[Z, Z, Z])).run Tryd.prog u = .ok (.bool oL) u) (w : World) :
    Calls Tryd.prog 13 #[RcV 2 f S pk g s l p t i c] w fun e w' => e = .returned (.bool (oP && oL)) ∧ Up w w' := by
  cases oP
  all_goals
    go_enter Tryd.func13, Tryd.ntmps13
    go_wp2
    go_quiet (fail)
    go_wp2
    go_ret
    exact ⟨rfl, (Up.alloc _ _).trans (up_drewN _ _)⟩
set_option maxHeartbeats 800000 in
theorem RValid_k3 (f : Nat) (S : ByteArray) (pk : Int) (g s l p t i c : Nat) (oP oL oR : Bool) (h : ((S.size : Int) == 0) = false) (h64 : ¬ (64 : Int) < (S.size : Int))
    (hP : ∀ u, (binOp .eql 28 (.agg #[.int .i64 pk, V g, V s, V l, V p]) (.agg #[.int .i64 0, Z, Z, Z, Z])).run Tryd.prog u = .ok (.bool oP) u)
    (hL : ∀ u, (binOp .eql 30 (.agg #[V t, V i, V c]) (.agg #[Z, Z, Z])).run Tryd.prog u = .ok (.bool oL) u)
    (hR : ∀ w, Calls Tryd.prog 26 #[Lv t i c] w fun e w' => e = .returned (.bool oR) ∧ Up w w') (w : World) :
    Calls Tryd.prog 13 #[RcV 3 f S pk g s l p t i c] w fun e w' => e = .returned (.bool (oP && oR)) ∧ Up w w' := by
  cases oP
  · go_enter Tryd.func13, Tryd.ntmps13
    go_wp2
    go_quiet (fail)
    go_wp2
    go_ret
    exact ⟨rfl, (Up.alloc _ _).trans (up_drewN _ _)⟩
  · go_enter Tryd.func13, Tryd.ntmps13
    go_wp2
    go_quiet (fail)
    go_wp2_with fail
    refine (hR _).mono ?_
    rintro e w1 ⟨rfl, u1⟩
    go_wp2
    go_ret
    exact ⟨rfl, (Up.alloc _ _).trans ((up_drewN _ _).trans u1)⟩
set_option maxHeartbeats 800000 in
theorem RValid_other (k : Int) (f : Nat) (S : ByteArray) (pk : Int) (g s l p t i c : Nat) (oP oL : Bool) (h : ((S.size : Int) == 0) = false) (h64 : ¬ (64 : Int) < (S.size : Int))
    (k1 : ¬ k = 1) (k2 : ¬ k = 2) (k3 : ¬ k = 3)
    (hP : ∀ u, (binOp .eql 28 (.agg #[.int .i64 pk, V g, V s, V l, V p]) (.agg #[.int .i64 0, Z, Z, Z, Z])).run Tryd.prog u = .ok (.bool oP) u)
    (hL : ∀ u, (binOp .eql 30 (.agg #[V t, V i, V c]) (.agg #[Z, Z, Z])).run Tryd.prog u = .ok (.bool oL) u) (w : World) :
    Calls Tryd.prog 13 #[RcV k f S pk g s l p t i c] w fun e w' => e = .returned (.bool false) ∧ Up w w' := by
  go_enter Tryd.func13, Tryd.ntmps13
  go_wp2
  go_quiet (fail)
  go_wp2
  go_ret
  exact ⟨rfl, (Up.alloc _ _).trans (up_drewN _ _)⟩

/-- A record's policy and level in the numbers of the face. -/
abbrev RecV.pol (r : RecV) : Pol := ⟨r.pk, r.gap, r.slack, r.limit, r.span⟩
theorem polOk_valid (r : RecV) : pValid r.pol = decide (polOk r) := rfl
theorem and_dec {p q : Prop} [Decidable p] [Decidable q] : (decide p && decide q) = decide (p ∧ q) := by by_cases h1 : p <;> by_cases h2 : q <;> simp [h1, h2]
theorem key_size (key : List UInt8) : (⟨key.toArray⟩ : ByteArray).size = key.length := by simp [ByteArray.size]

theorem RValid_any (r : RecV) (w : World) :
    Calls Tryd.prog 13 #[RV r] w fun e w' => e = .returned (.bool (decide (validR r))) ∧ Up w w' := by
  have hsz := key_size r.key
  have hP := policy_zero r.pk r.gap r.slack r.limit r.span
  have hL := level_zero r.tat r.idx r.cnt
  have hV := valid_call r.pol
  rw [polOk_valid] at hV
  have hR := ofOneRule_any r.tat r.idx r.cnt
  by_cases h0 : r.key.length = 0
  · rw [show decide (validR r) = false from decide_eq_false fun q => by have := q.1; omega]
    exact RValid_none _ _ _ _ _ _ _ _ _ _ _ (by rw [hsz, h0]; rfl) w
  · have e0 : (((⟨r.key.toArray⟩ : ByteArray).size : Int) == 0) = false := by rw [hsz]; simp; intro e; exact h0 (by rw [e]; rfl)
    by_cases h64 : 64 < r.key.length
    · rw [show decide (validR r) = false from decide_eq_false fun q => by have := q.2.1; omega]
      exact RValid_long _ _ _ _ _ _ _ _ _ _ _ e0 (by rw [hsz]; omega) w
    · have e64 : ¬ (64 : Int) < ((⟨r.key.toArray⟩ : ByteArray).size : Int) := by rw [hsz]; omega
      by_cases k1 : r.kind = 1
      · rw [show decide (validR r) = (decide (polOk r) && decide (lvlNo r)) by
          rw [and_dec]
          refine decide_eq_decide.2 ⟨fun q => ?_, fun q => ⟨by omega, by omega, .inl ⟨k1, q.1, q.2⟩⟩⟩
          rcases q.2.2 with h | h | h
          · exact h.2
          · have := h.1; omega
          · have := h.1; omega]
        have := RValid_k1 r.floor ⟨r.key.toArray⟩ r.pk r.gap r.slack r.limit r.span r.tat r.idx r.cnt _ _ _ e0 e64 hP hL hV w
        rw [← k1] at this
        exact this
      · by_cases k2 : r.kind = 2
        · rw [show decide (validR r) = (decide (polNo r) && decide (lvlNo r)) by
            rw [and_dec]
            refine decide_eq_decide.2 ⟨fun q => ?_, fun q => ⟨by omega, by omega, .inr (.inl ⟨k2, q.1, q.2⟩)⟩⟩
            rcases q.2.2 with h | h | h
            · have := h.1; omega
            · exact h.2
            · have := h.1; omega]
          have := RValid_k2 r.floor ⟨r.key.toArray⟩ r.pk r.gap r.slack r.limit r.span r.tat r.idx r.cnt _ _ e0 e64 hP hL w
          rw [← k2] at this
          exact this
        · by_cases k3 : r.kind = 3
          · rw [show decide (validR r) = (decide (polNo r) && decide (r.tat = 0 ∨ r.idx = 0 ∧ r.cnt = 0)) by
              rw [and_dec]
              refine decide_eq_decide.2 ⟨fun q => ?_, fun q => ⟨by omega, by omega, .inr (.inr ⟨k3, q.1, q.2⟩)⟩⟩
              rcases q.2.2 with h | h | h
              · have := h.1; omega
              · have := h.1; omega
              · exact h.2]
            have := RValid_k3 r.floor ⟨r.key.toArray⟩ r.pk r.gap r.slack r.limit r.span r.tat r.idx r.cnt _ _ _ e0 e64 hP hL hR w
            rw [← k3] at this
            exact this
          · rw [show decide (validR r) = false from decide_eq_false fun q => by
              rcases q.2.2 with h | h | h
              · exact k1 h.1
              · exact k2 h.1
              · exact k3 h.1]
            exact RValid_other r.kind r.floor ⟨r.key.toArray⟩ r.pk r.gap r.slack r.limit r.span r.tat r.idx r.cnt _ _ e0 e64 k1 k2 k3 hP hL w
end Go.Proofs.YtcllenlpoknakaaDoor

/- Merged: RcRefT, PushX. -/
import Derived.Test.YtcllenlpoknakaaDoorMr34
import Derived.Test.YtcllenlpoknakaaDoorMr14
import Derived.OwnWalk
import Derived.Lib.SliceRun
set_option linter.unusedVariables false
set_option linter.unusedSimpArgs false
namespace Go.Proofs.YtcllenlpoknakaaDoor
open Go Go.RowKit

/-- What the reference's Decode answers. -/
def QDec (e : Ending) : Except RecE RecV → Prop
  | .error .short => e = .returned (.tuple #[.agg Zs, .int .i64 2])
  | .error .form => e = .returned (.tuple #[.agg Zs, .int .i64 3])
  | .ok r => e = .returned (.tuple #[RV r, .int .i64 0])
theorem qdec_end {e : Ending} {st : Option (List UInt8)} {r : RecV} (h : e = .returned (qdecT st (decide (validR r)) (RV r))) : QDec e (fin (st.map fun rest => (r, rest))) := by
  cases st with
  | none => exact h
  | some l =>
    cases l with
    | nil =>
      by_cases hv : validR r
      · rw [decide_eq_true hv] at h
        have e : fin ((some ([] : List UInt8)).map fun rest => (r, rest)) = .ok r := by simp [fin, hv]
        rw [e]
        exact h
      · rw [decide_eq_false hv] at h
        have e : fin ((some ([] : List UInt8)).map fun rest => (r, rest)) = .error .form := by simp [fin, hv]
        rw [e]
        exact h
    | cons c t =>
      have e : fin ((some (c :: t)).map fun rest => (r, rest)) = .error .form := by simp [fin]
      rw [e]
      exact h
set_option maxHeartbeats 400000 in
theorem qDecode_any (base : Nat) (v : Value) (b : List UInt8) (w : World) (hs : Sl base w v b) (hl : (b.length : Int) ≤ 140737488351232) :
    Calls Tryd.prog 20 #[v] w fun e w' => QDec e (decR b) ∧ Up w w' := by
  rcases e0 : rdA 1 (some b) with ⟨k, _ | b1⟩
  · have hb : b = [] ∧ k = 0 := by
      simp only [rdA] at e0
      by_cases h : b.length < 1
      · rw [if_pos h] at e0
        simp only [Prod.mk.injEq] at e0
        exact ⟨List.eq_nil_of_length_eq_zero (by omega), e0.1.symm⟩
      · rw [if_neg h] at e0; cases e0
    obtain ⟨rfl, rfl⟩ := hb
    exact qDecode_short1 base v [] w hs hl rfl
  · by_cases hk : k < 1 ∨ 3 < k
    · have e : decR b = .error .form := by
        have hr : rd 1 b = some (k, b1) := by
          simp only [rdA] at e0
          unfold rd
          by_cases h : b.length < 1
          · rw [if_pos h] at e0; cases e0
          · rw [if_neg h] at e0 ⊢
            simp only [Prod.mk.injEq, Option.some.injEq] at e0
            rw [e0.1, e0.2]
        unfold decR
        rw [hr]
        simp only
        rw [if_pos hk]
      rw [e]
      exact qDecode_kind base v b w hs hl e0 (by omega)
    · rw [decR_kind e0 (by omega) (by omega)]
      rcases e1 : rdA 8 (some b1) with ⟨f, s2⟩
      rcases e2 : rdTA s2 with ⟨key, s3⟩
      have k123 : k = 1 ∨ k = 2 ∨ k = 3 := by omega
      rcases k123 with rfl | rfl | rfl
      · rcases e3 : rdA 1 s3 with ⟨x, s4⟩
        rcases e4 : rdA 8 s4 with ⟨y, s5⟩
        rcases e5 : rdA 8 s5 with ⟨z, s6⟩
        rw [fields_1 e1 e2 e3 e4 e5]
        by_cases h1 : x = 1
        · subst h1
          refine (qDecode_flow base v b w hs hl (decide (validR (polV 1 y z (rec0 1 f key)))) e0 e1 e2 e3 e4 e5 rfl _ rfl (qValid_any (polV 1 y z (rec0 1 f key)))).mono ?_
          rintro e w' ⟨he, hu⟩
          exact ⟨qdec_end (r := polV 1 y z (rec0 1 f key)) he, hu⟩
        · have ep : polV x y z (rec0 1 f key) = { rec0 1 f key with pk := x, limit := y, span := z } := by simp only [polV, if_neg h1]
          rw [ep]
          refine (qDecode_grid base v b w hs hl (decide (validR { rec0 1 f key with pk := x, limit := y, span := z })) e0 e1 e2 e3 e4 e5 (by simp; omega) _ rfl (qValid_any { rec0 1 f key with pk := x, limit := y, span := z })).mono ?_
          rintro e w' ⟨he, hu⟩
          exact ⟨qdec_end (r := { rec0 1 f key with pk := x, limit := y, span := z }) he, hu⟩
      · rw [fields_2 e1 e2]
        refine (qDecode_del base v b w hs hl (decide (validR (rec0 2 f key))) e0 e1 e2 _ rfl (qValid_any (rec0 2 f key))).mono ?_
        rintro e w' ⟨he, hu⟩
        exact ⟨qdec_end (r := rec0 2 f key) he, hu⟩
      · rcases e3 : rdA 8 s3 with ⟨x, s4⟩
        rcases e4 : rdA 8 s4 with ⟨y, s5⟩
        rcases e5 : rdA 8 s5 with ⟨z, s6⟩
        rw [fields_3 e1 e2 e3 e4 e5]
        refine (qDecode_ceil base v b w hs hl (decide (validR { rec0 3 f key with tat := x, idx := y, cnt := z })) e0 e1 e2 e3 e4 e5 _ rfl (qValid_any { rec0 3 f key with tat := x, idx := y, cnt := z })).mono ?_
        rintro e w' ⟨he, hu⟩
        exact ⟨qdec_end (r := { rec0 3 f key with tat := x, idx := y, cnt := z }) he, hu⟩
end Go.Proofs.YtcllenlpoknakaaDoor

set_option linter.unusedVariables false
namespace Go.Proofs.YtcllenlpoknakaaDoor
open Go Go.RowKit

/-- append(s, c) where s is an own row of bytes and c the one byte of a new block, told whole: either the row moves to a new block and no old block is turned, or it stays where it is and no other block is turned. -/
theorem wpList_pushX {ops : Array Oper} {rest : List Oper} {o : Oper} {a : Act} {Q : Exit → Act → World → Prop} (w : World) (hgd : o.guard = none) (s x : Operand)
    (ho : o.op = .call { callee := .builtin .append, args := #[s, x], argTypes := #[33, 33] }) (base : Nat) (v : Value) (bs : List UInt8) (hs : a.eval s = v) (q : Int)
    (hx : a.eval x = .slice (some ⟨w.heap.size, 0, none⟩) 1 1) (how : Own w 5 base v bs) (hbase : base ≤ w.heap.size) (hl : bs.length ≤ 140737488355000) (c : UInt8) (hc : q = c.toNat)
    (hK : ∀ v' w', Own w' 5 base v' (bs ++ [c]) → ((Own w' 5 w.heap.size v' (bs ++ [c]) ∧ Up w w') ∨ (∃ g cap, v = .slice (some ⟨g, 0, none⟩) bs.length cap ∧ v' = .slice (some ⟨g, 0, none⟩) (bs.length + 1) cap ∧ But g w w')) → wpList Tryd.prog ops Q rest (a.put o.dst v') w') :
    wpList Tryd.prog ops Q (o :: rest) a (w.alloc (.cells #[.int .u8 q] 5)) := by
  obtain ⟨i0, hi, hz0, hz1, hz2⟩ := info_parts Tryd.infoU8
  subst hc
  have hnews : ∀ j u, ([B c] : List Value)[j]? = some u → (w.alloc (.cells #[.int .u8 (c.toNat : Int)] 5)).cell? ((⟨w.heap.size, 0, none⟩ : Addr).add j) = some u := by
    intro j u hj
    match j, hj with
    | 0, hj => simp at hj; subst hj; rw [Addr.add_lit, cell_of_row _ _ _ _ _ _ (heap_alloc_new _ _)]; rfl
  have h1c : ∀ u ∈ ([B c] : List Value), u.oneCell' = true := by intro u hu; simp at hu; subst hu; rfl
  have how' : Own (w.alloc (.cells #[.int .u8 (c.toNat : Int)] 5)) 5 base v bs := how.alloc _
  by_cases hroom : ∃ g cap, v = .slice (some ⟨g, 0, none⟩) bs.length cap ∧ bs.length + 1 ≤ cap
  · obtain ⟨g, cap, rfl, hr⟩ := hroom
    have hgl := (World.ownsRow.lt how g rfl).2
    refine wpList_append_fits _ hgd s x 33 ho base 5 i0 1 Tryd.underlying33 hi hz1 g bs.length cap (Bv bs) hs how' ⟨w.heap.size, 0, none⟩ 1 1 [B c] hx rfl hnews h1c hr ?_
    intro w' h1 h2
    refine hK _ w' (by simpa [Own] using h1) (.inr ⟨g, cap, rfl, rfl, ?_⟩)
    exact (But.of_up g (Up.alloc w _)).trans h2
  · refine wpList_plain hgd fun K hKK => ?_
    have hal : Up w (w.alloc (.cells #[.int .u8 (c.toNat : Int)] 5)) := Up.alloc w _
    have hlast : (Bv bs ++ [B c]) = Bv (bs ++ [c]) := by simp
    have hzc : (Value.int IntKind.u8 0).cells.size = 1 := rfl
    rcases how'.2 with ⟨rfl, h0⟩ | ⟨g, cap, cur, rfl, hbg, hg, hnc, hcm, hcs, htake⟩
    · obtain rfl : bs = [] := List.eq_nil_of_length_eq_zero h0
      have hr := run_append_nil (P := Tryd.prog) (w.alloc (.cells #[.int .u8 (c.toNat : Int)] 5)) 33 o.type 5 i0 (.int .u8 0) Tryd.underlying33 hi hz0 ⟨w.heap.size, 0, none⟩ 1 1 [B c] (by rw [hz1]; rfl) hnews (by omega) (by omega) (by rw [hz2]; omega)
      have hge := grownCap_ge (w.alloc (.cells #[.int .u8 (c.toNat : Int)] 5)) 1 0 5
      have hcm2 := grownCap_le_maxLen (w.alloc (.cells #[.int .u8 (c.toNat : Int)] 5)) 1 0 5 (by unfold maxLen; omega)
      unfold Oper.wp execOp
      simp only [ho, resolve, invoke, builtin, Sem.run_bind, Sem.run_pure, Result.andThen_ok, List.map_toArray, List.map_cons, List.map_nil, hs, hx, hr]
      generalize grownCap (w.alloc (.cells #[.int .u8 (c.toNat : Int)] 5)) 1 0 5 = gc at hge hcm2 ⊢
      have hown : ∀ b0, b0 ≤ w.heap.size → Own ((w.alloc (.cells #[.int .u8 (c.toNat : Int)] 5)).drew.alloc (.cells ([B c].toArray ++ Builtin.zeroCells (Value.int IntKind.u8 0).cells (gc - 1)) 5)) 5 b0 (.slice (some ⟨(w.alloc (.cells #[.int .u8 (c.toNat : Int)] 5)).heap.size, 0, none⟩) 1 gc) ([] ++ [c]) := by
        intro b0 hb0
        refine ⟨by simp, .inr ⟨_, gc, _, rfl, ?_, heap_alloc_new _ _, by simpa using hge, hcm2, ?_, by simp⟩⟩
        · simp; omega
        · simp only [Array.size_append, List.size_toArray, size_zeroCells, hzc, List.length_cons, List.length_nil]; omega
      refine hKK _ _ (hK _ _ (hown base hbase) (.inl ⟨hown _ (Nat.le_refl _), ?_⟩))
      exact hal.trans ((Up.drew _).trans (Up.alloc _ _))
    · rw [Nat.mul_one] at hcs htake
      have hfull : cap < bs.length + 1 := by
        apply Classical.byContradiction
        intro h
        exact hroom ⟨g, cap, rfl, by omega⟩
      have holds : ∀ j u, (Bv bs)[j]? = some u → (w.alloc (.cells #[.int .u8 (c.toNat : Int)] 5)).cell? ((⟨g, 0, none⟩ : Addr).add j) = some u := how'.cells (g := g) rfl
      have hr := run_append_grow (P := Tryd.prog) (w.alloc (.cells #[.int .u8 (c.toNat : Int)] 5)) 33 o.type 5 i0 (.int .u8 0) Tryd.underlying33 hi hz0 ⟨g, 0, none⟩ bs.length cap (Bv bs) (by rw [hz1]; simp) holds ⟨w.heap.size, 0, none⟩ 1 1 [B c] (by rw [hz1]; rfl) hnews (by omega) (by omega)
        (by rw [hz2]; exact growslice_fits (by omega) (by omega))
      have hge := grownCap_ge (w.alloc (.cells #[.int .u8 (c.toNat : Int)] 5)) (bs.length + 1) cap 5
      have hcm2 := grownCap_le_maxLen (w.alloc (.cells #[.int .u8 (c.toNat : Int)] 5)) (bs.length + 1) cap 5 (by unfold maxLen; omega)
      unfold Oper.wp execOp
      simp only [ho, resolve, invoke, builtin, Sem.run_bind, Sem.run_pure, Result.andThen_ok, List.map_toArray, List.map_cons, List.map_nil, hs, hx, hr]
      generalize grownCap (w.alloc (.cells #[.int .u8 (c.toNat : Int)] 5)) (bs.length + 1) cap 5 = gc at hge hcm2 ⊢
      have hown : ∀ b0, b0 ≤ w.heap.size → Own ((w.alloc (.cells #[.int .u8 (c.toNat : Int)] 5)).drew.alloc (.cells ((Bv bs).toArray ++ [B c].toArray ++ Builtin.zeroCells (Value.int IntKind.u8 0).cells (gc - (bs.length + 1))) 5)) 5 b0 (.slice (some ⟨(w.alloc (.cells #[.int .u8 (c.toNat : Int)] 5)).heap.size, 0, none⟩) (bs.length + 1) gc) (bs ++ [c]) := by
        intro b0 hb0
        refine ⟨by simp, .inr ⟨_, gc, _, by simp, ?_, heap_alloc_new _ _, by simpa using hge, hcm2, ?_, ?_⟩⟩
        · simp; omega
        · simp only [Array.size_append, List.size_toArray, size_zeroCells, hzc, List.length_map, List.length_cons, List.length_nil]; omega
        · simp only [Array.toList_append, List.append_assoc]
          rw [← List.append_assoc, hlast, Nat.mul_one]
          have e : (Bv (bs ++ [c])).length = (bs ++ [c]).length := by simp
          rw [← e]; exact List.take_left
      refine hKK _ _ (hK _ _ (hown base hbase) (.inl ⟨hown _ (Nat.le_refl _), ?_⟩))
      exact hal.trans ((Up.drew _).trans (Up.alloc _ _))
end Go.Proofs.YtcllenlpoknakaaDoor

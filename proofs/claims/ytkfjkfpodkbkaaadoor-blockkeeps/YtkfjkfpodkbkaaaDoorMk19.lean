/- Merged: BkLib. -/
import Derived.Test.YtkfjkfpodkbkaaaDoorMk08
import Derived.Test.YtkfjkfpodkbkaaaDoorMk11
import Derived.Test.YtkfjkfpodkbkaaaDoorMk14
import Derived.Test.YtkfjkfpodkbkaaaDoorMk18
import Derived.Laws.OwnMore
import Derived.Laws.MakeOwn
import Derived.Deep.LoopGhost
import Derived.Deep.QuietTactic
import Derived.BigQuiet
import Derived.Deep.DeepAppendWide
set_option linter.unusedVariables false
set_option linter.unusedSimpArgs false
namespace Go.Proofs.YtkfjkfpodkbkaaaDoor
open Go Go.RowKit

theorem le_bl : ∀ n x, le n x = bl n x
  | 0, _ => rfl
  | n + 1, x => by rw [le, bl, le_bl n]
theorem unle_lb : ∀ bs, unle bs = lb bs
  | [] => rfl
  | c :: r => by rw [unle, lb, unle_lb r]

theorem Sl.slice {base : Nat} {w : World} {v : Value} {bs : List UInt8} (h : Sl base w v bs) : ∃ ao cap, v = .slice ao bs.length cap := by
  obtain ⟨ao, cap, rfl, _⟩ := h
  exact ⟨ao, cap, rfl⟩
theorem Sl.some {base : Nat} {w : World} {v : Value} {bs : List UInt8} (h : Sl base w v bs) (hne : bs ≠ []) : ∃ b o cap, v = .slice (some ⟨b, o, none⟩) bs.length cap := by
  obtain ⟨ao, cap, rfl, _, _, hx⟩ := h
  obtain ⟨b, o, rfl, _⟩ := hx hne
  exact ⟨b, o, cap, rfl⟩
/-! Own rows: what stays. -/
theorem At.kept {w w' : World} {b o : Nat} {bs : List UInt8} (h : At w b o bs) (hk : w'.heap[b]? = w.heap[b]?) : At w' b o bs := by
  intro i hi
  have : w'.cell? ⟨b, o + i, none⟩ = w.cell? ⟨b, o + i, none⟩ := by simp only [World.cell?, hk]
  rw [this]; exact h i hi
theorem Own.at {w : World} {e : TypeId} {base g n cap : Nat} {bs : List UInt8} (h : Own w e base (.slice (some ⟨g, 0, none⟩) n cap) bs) : At w g 0 bs := by
  by_cases hb : bs = []
  · subst hb; intro i hi; simp at hi
  · obtain ⟨ao, c, e1, _, _, h3⟩ := h.sl
    obtain ⟨b, o, e2, _, ha⟩ := h3 hb
    simp only [Value.slice.injEq] at e1
    rw [← e1.1] at e2
    simp only [Option.some.injEq, Addr.mk.injEq, and_true] at e2
    obtain ⟨rfl, rfl⟩ := e2
    exact ha
theorem Own.set {w : World} {base g n cap : Nat} {bs : List UInt8} (h : Own w 5 base (.slice (some ⟨g, 0, none⟩) n cap) bs) (k : Nat) (hk : k < bs.length) (c : UInt8) :
    Own (w.setCell ⟨g, k, none⟩ (B c)) 5 base (.slice (some ⟨g, 0, none⟩) n cap) (bs.set k c) := by
  obtain ⟨hl, ⟨hv, hn⟩ | ⟨g', cap', cur, hv, hb, hg, hnc, hcm, hcs, ht⟩⟩ := h
  · cases hv
  · cases hv
    refine ⟨by simp, .inr ⟨g, cap, cur.setIfInBounds k (B c), by simp, hb, ?_, by simpa using hnc, hcm, by simpa using hcs, ?_⟩⟩
    · exact heap_setCell2 w g _ k cur _ hg
    · rw [Array.toList_setIfInBounds, List.length_set, List.take_set, ht]
      exact (List.map_set ..).symm
theorem Own.not_frozen {w : World} {base g n cap t : Nat} {bs : List UInt8} (h : Own w 5 base (.slice (some ⟨g, 0, none⟩) n cap) bs) : w.frozen? ⟨g, t, none⟩ = false := by
  obtain ⟨hl, ⟨hv, _⟩ | ⟨g', cap', cur, hv, hb, hg, _⟩⟩ := h
  · cases hv
  · cases hv
    simp [World.frozen?, hg]
theorem ownsRow_kept {w w' : World} {base n size : Nat} {e : TypeId} {v : Value} {xs : List Value} (h : w.ownsRow base e size v n xs) (hk : ∀ g, v.ownBlock = some g → w'.heap[g]? = w.heap[g]?) : w'.ownsRow base e size v n xs := by
  obtain ⟨hl, ⟨rfl, hn⟩ | ⟨g, cap, cur, rfl, hb, hg, hnc, hcm, hcs, ht⟩⟩ := h
  · exact ⟨hl, .inl ⟨rfl, hn⟩⟩
  · exact ⟨hl, .inr ⟨g, cap, cur, rfl, hb, by rw [hk g rfl]; exact hg, hnc, hcm, hcs, ht⟩⟩
theorem ownsRow_up {w w' : World} {base n size : Nat} {e : TypeId} {v : Value} {xs : List Value} (h : w.ownsRow base e size v n xs) (hu : Up w w') : w'.ownsRow base e size v n xs :=
  ownsRow_kept h fun g hg => hu.block g (World.ownsRow.lt h g hg).2
theorem ownsRow_but {w w' : World} {r base n size : Nat} {e : TypeId} {v : Value} {xs : List Value} (h : w.ownsRow base e size v n xs) (hu : But r w w') (hne : v.ownBlock ≠ some r) : w'.ownsRow base e size v n xs :=
  ownsRow_kept h fun g hg => hu.block g (World.ownsRow.lt h g hg).2 (by intro e; apply hne; rw [hg, e])
theorem ownsRow_grown {w w' : World} {r : Option Nat} {base n size : Nat} {e : TypeId} {v : Value} {xs : List Value} (h : w.ownsRow base e size v n xs) (hu : w.grownBy w' r) (hne : ∀ g, v.ownBlock = some g → r ≠ some g) : w'.ownsRow base e size v n xs :=
  ownsRow_kept h fun g hg => hu.block g (World.ownsRow.lt h g hg).2 (fun e => hne g hg e.symm)
theorem ownsRow_low {w : World} {base base' : Nat} {e : TypeId} {size : Nat} {v : Value} {n : Nat} {xs : List Value} (h : w.ownsRow base e size v n xs) (hb : base' ≤ base) : w.ownsRow base' e size v n xs :=
  ownsRow_base h fun k hk => Nat.le_trans hb (World.ownsRow.lt h k hk).1
/-- A row of slices is no row of bytes. -/
theorem rows_apart {w : World} {base base' n m : Nat} {v u : Value} {xs ys : List Value} {g : Nat} (h : w.ownsRow base 27 1 v n xs) (k : w.ownsRow base' 5 1 u m ys) (hv : v.ownBlock = some g) : u.ownBlock ≠ some g := by
  intro hu
  obtain ⟨_, ⟨rfl, _⟩ | ⟨g1, cap, cur, rfl, hb, hg, _⟩⟩ := h
  · cases hv
  · obtain ⟨_, ⟨rfl, _⟩ | ⟨g2, cap2, cur2, rfl, hb2, hg2, _⟩⟩ := k
    · cases hu
    · cases hv
      cases hu
      rw [hg] at hg2
      simp at hg2
theorem own_one {w : World} {base n size : Nat} {e : TypeId} {v : Value} {xs : List Value} (h : w.ownsRow base e size v n xs) : v.oneCell' = true := by
  obtain ⟨_, ⟨rfl, _⟩ | ⟨g, cap, cur, rfl, _⟩⟩ := h <;> rfl

theorem make_u8 (n : Nat) (hn : n ≤ 140737488355328) (u : World) : (Instr.makeSlice 27 (.int .i64 (n : Int)) (.int .i64 (n : Int))).run Tryd.prog u =
    .ok (.slice (some ⟨u.heap.size, 0, none⟩) n n) (u.alloc (.cells (madeCells #[.int .u8 0] n) 5)) := by
  obtain ⟨i0, hi, hz0, hz1, hz2⟩ := info_parts Tryd.infoU8
  have h := run_make (P := Tryd.prog) u 27 5 i0 (.int .u8 0) Tryd.underlying27 hi hz0 .i64 .i64 (n : Int) (n : Int) (by omega) (by omega) (by rw [hz2]; omega) (by omega)
  simpa [hz1, Value.cells] using h
theorem own_made (n : Nat) (hn : n ≤ 140737488355327) (w : World) : Own (w.alloc (.cells (madeCells #[.int .u8 0] n) 5)) 5 w.heap.size (.slice (some ⟨w.heap.size, 0, none⟩) n n) (List.replicate n 0) := by
  refine ⟨by simp, .inr ⟨w.heap.size, n, _, by simp, Nat.le_refl _, heap_alloc_new _ _, by simp, by unfold maxLen; omega, by simp [size_madeCells], ?_⟩⟩
  rw [toList_madeCells_one, List.take_replicate]
  simp [Bv]
/-- Bytes that were just built. -/
theorem own_built (w : World) (cs : List UInt8) (hl : cs.length ≤ 1000000) : Own (w.alloc (.cells (Bv cs).toArray 5)) 5 w.heap.size (.slice (some ⟨w.heap.size, 0, none⟩) cs.length cs.length) cs :=
  ⟨by simp, .inr ⟨w.heap.size, cs.length, _, rfl, Nat.le_refl _, heap_alloc_new _ _, Nat.le_refl _, by unfold maxLen; omega, by simp, by rw [Nat.mul_one, List.toList_toArray, List.take_of_length_le (by simp)]⟩⟩

theorem Tryd.infoSl : (Tryd.prog.info? 27).map (fun i => (i.zero, i.size, i.bytes)) = some (some (.slice none 0 0), 1, 24) := by kernel_rfl
/-- An own row of slices. -/
def OwnV (w : World) (base : Nat) (v : Value) (vs : List Value) : Prop := w.ownsRow base 27 1 v vs.length vs
theorem OwnV.nil (w : World) (base : Nat) : OwnV w base (.slice none 0 0) [] := World.ownsRow_nil w base _ 1
theorem OwnV.len {w : World} {base : Nat} {v : Value} {vs : List Value} (h : OwnV w base v vs) : ∃ ao cap, v = .slice ao vs.length cap := by
  obtain ⟨hn, ⟨rfl, h0⟩ | ⟨g, cap, cur, rfl, _⟩⟩ := h
  · exact ⟨none, 0, by rw [h0]⟩
  · exact ⟨_, cap, rfl⟩
theorem OwnV.parts {w : World} {base : Nat} {v : Value} {vs : List Value} (h : OwnV w base v vs) : (v = .slice none 0 0 ∧ vs = []) ∨
    ∃ g cap cur, v = .slice (some ⟨g, 0, none⟩) vs.length cap ∧ base ≤ g ∧ g < w.heap.size ∧ w.heap[g]? = some (.cells cur 27 (0, 0)) ∧ vs.length ≤ cap ∧ cap ≤ maxLen ∧ cur.size = cap ∧ cur.toList.take vs.length = vs := by
  obtain ⟨hl, ⟨rfl, hn⟩ | ⟨g, cap, cur, rfl, hb, hg, hnc, hcm, hcs, ht⟩⟩ := h
  · exact .inl ⟨rfl, List.eq_nil_of_length_eq_zero hn⟩
  · exact .inr ⟨g, cap, cur, rfl, hb, (Array.getElem?_eq_some_iff.1 hg).1, hg, hnc, hcm, by simpa using hcs, by simpa using ht⟩
theorem OwnV.cell {w : World} {base : Nat} {v : Value} {vs : List Value} (h : OwnV w base v vs) (i : Nat) (hi : i < vs.length) : ∃ g cap, v = .slice (some ⟨g, 0, none⟩) vs.length cap ∧ w.cell? ⟨g, i, none⟩ = some vs[i] := by
  rcases h.parts with ⟨_, rfl⟩ | ⟨g, cap, cur, rfl, hb, hlt, hg, hnc, hcm, hcs, ht⟩
  · simp at hi
  · refine ⟨g, cap, rfl, ?_⟩
    rw [cell_of_row w g _ cur _ (0, 0) hg]
    have h2 : (cur.toList.take vs.length)[i]? = some vs[i] := by rw [ht]; exact List.getElem?_eq_getElem hi
    rw [List.getElem?_take, if_pos hi] at h2
    simpa using h2

/-- append(s, x...) where s is an own row of slices. -/
theorem wpList_appV {ops : Array Oper} {rest : List Oper} {o : Oper} {a : Act} {Q : Exit → Act → World → Prop} (w : World) (hgd : o.guard = none) (s x : Operand)
    (ho : o.op = .call { callee := .builtin .append, args := #[s, x], argTypes := #[23, 23] }) (base : Nat) (v : Value) (vs us : List Value) (hs : a.eval s = v) (ad : Addr) (c : Nat)
    (hx : a.eval x = .slice (some ad) us.length c) (how : OwnV w base v vs) (hat : ∀ j u, us[j]? = some u → w.cell? (ad.add j) = some u) (h1 : ∀ u ∈ us, u.oneCell' = true) (hbase : base ≤ w.heap.size) (hl : vs.length + us.length ≤ 5000000000000)
    (hK : ∀ v' w', OwnV w' base v' (vs ++ us) → w.grownBy w' v.ownBlock → wpList Tryd.prog ops Q rest (a.put o.dst v') w') :
    wpList Tryd.prog ops Q (o :: rest) a w := by
  obtain ⟨i0, hi, hz0, hz1, hz2⟩ := info_parts Tryd.infoSl
  refine wpList_append_own_wide _ hgd s x 23 ho base 27 i0 (.slice none 0 0) 1 24 Tryd.underlying23 hi hz0 hz1 hz2 rfl (by decide) v vs.length vs hs how ad us.length c us hx (by simp) hat h1 ?_ ?_ hbase ?_
  · unfold maxLen; omega
  · omega
  · intro v' w' h1 h2 _
    exact hK v' w' (by simpa [OwnV] using h1) h2
theorem wpList_bytes {ops : Array Oper} {rest : List Oper} {o : Oper} {a : Act} {Q : Exit → Act → World → Prop} (w : World) (hgd : o.guard = none) (s x : Operand)
    (ho : o.op = .call { callee := .builtin .append, args := #[s, x], argTypes := #[27, 27] }) (base base' : Nat) (v : Value) (bs cs : List UInt8) (hs : a.eval s = v) (ad : Addr) (c : Nat)
    (hx : a.eval x = .slice (some ad) cs.length c) (how : Own w 5 base v bs) (hsx : Sl base' w (.slice (some ad) cs.length c) cs) (hbase : base ≤ w.heap.size) (hl : bs.length + cs.length ≤ 200000000000000)
    (hK : ∀ v' w', Own w' 5 base v' (bs ++ cs) → w.grownBy w' v.ownBlock → wpList Tryd.prog ops Q rest (a.put o.dst v') w') :
    wpList Tryd.prog ops Q (o :: rest) a w := by
  obtain ⟨i0, hi, hz0, hz1, hz2⟩ := info_parts Tryd.infoU8
  refine wpList_append_own_wide _ hgd s x 27 ho base 5 i0 (.int .u8 0) 1 1 Tryd.underlying27 hi hz0 hz1 hz2 rfl (by decide) v bs.length (Bv bs) hs how ad cs.length c (Bv cs) hx (by simp) ?_ (Bv_one cs) ?_ ?_ hbase ?_
  · intro j u hj
    obtain ⟨ao, cap, hv, _, _, hxx⟩ := hsx
    obtain ⟨b, o, rfl, _, ha⟩ := hxx (by rintro rfl; simp at hj)
    simp only [Value.slice.injEq] at hv
    obtain rfl := Option.some.inj hv.1
    exact ha.add j u hj
  · unfold maxLen; omega
  · omega
  · intro v' w' h1 h2 _
    exact hK v' w' (by simpa [Own] using h1) h2

theorem grown_below {w w' : World} {v : Value} {base : Nat} (h : w.grownBy w' v.ownBlock) (hb : base ≤ w.heap.size) (hv : ∀ k, v.ownBlock = some k → base ≤ k) : Below base w w' :=
  (Below.refl base w).grown h hb hv
theorem grown_up {w0 w w' : World} {v : Value} (hu : Up w0 w) (h : w.grownBy w' v.ownBlock) (hv : ∀ k, v.ownBlock = some k → w0.heap.size ≤ k) : Up w0 w' :=
  Below.grown hu h hu.size hv

/-- A row of bytes of one's own, whole in its block; the block may bear the mark of a conversion from a string behind its last cell. -/
def OwnM (w : World) (base : Nat) (v : Value) (bs : List UInt8) : Prop :=
  (v = .slice none 0 0 ∧ bs = []) ∨ ∃ g cap cur f, v = .slice (some ⟨g, 0, none⟩) bs.length cap ∧ base ≤ g ∧ w.heap[g]? = some (.cells cur 5 f) ∧ bs.length ≤ cap ∧ cap ≤ maxLen ∧ cur.size = cap ∧ cur.toList.take bs.length = Bv bs ∧ (f = (0, 0) ∨ f = (cap, cap + 1))
theorem Own.m {w : World} {base : Nat} {v : Value} {bs : List UInt8} (h : Own w 5 base v bs) : OwnM w base v bs := by
  obtain ⟨hl, ⟨rfl, hn⟩ | ⟨g, cap, cur, rfl, hb, hg, hnc, hcm, hcs, ht⟩⟩ := h
  · exact .inl ⟨rfl, List.eq_nil_of_length_eq_zero hn⟩
  · exact .inr ⟨g, cap, cur, _, rfl, hb, hg, hnc, hcm, by simpa using hcs, by simpa using ht, .inl rfl⟩
theorem OwnM.lt {w : World} {base : Nat} {v : Value} {bs : List UInt8} (h : OwnM w base v bs) (k : Nat) (hk : v.ownBlock = some k) : base ≤ k ∧ k < w.heap.size := by
  rcases h with ⟨rfl, _⟩ | ⟨g, cap, cur, f, rfl, hb, hg, _⟩
  · cases hk
  · cases hk; exact ⟨hb, (Array.getElem?_eq_some_iff.1 hg).1⟩
theorem OwnM.kept {w w' : World} {base : Nat} {v : Value} {bs : List UInt8} (h : OwnM w base v bs) (hk : ∀ g, v.ownBlock = some g → w'.heap[g]? = w.heap[g]?) : OwnM w' base v bs := by
  rcases h with h | ⟨g, cap, cur, f, rfl, hb, hg, rest⟩
  · exact .inl h
  · exact .inr ⟨g, cap, cur, f, rfl, hb, by rw [hk g rfl]; exact hg, rest⟩
theorem OwnM.up {w w' : World} {base : Nat} {v : Value} {bs : List UInt8} (h : OwnM w base v bs) (u : Up w w') : OwnM w' base v bs :=
  h.kept fun g hg => u.block g (h.lt g hg).2
theorem OwnM.grown {w w' : World} {r : Option Nat} {base : Nat} {v : Value} {bs : List UInt8} (h : OwnM w base v bs) (u : w.grownBy w' r) (hne : ∀ g, v.ownBlock = some g → r ≠ some g) : OwnM w' base v bs :=
  h.kept fun g hg => u.block g (h.lt g hg).2 (fun e => hne g hg e.symm)
theorem OwnM.base {w : World} {base base' : Nat} {v : Value} {bs : List UInt8} (h : OwnM w base v bs) (hb : ∀ k, v.ownBlock = some k → base' ≤ k) : OwnM w base' v bs := by
  rcases h with h | ⟨g, cap, cur, f, rfl, _, rest⟩
  · exact .inl h
  · exact .inr ⟨g, cap, cur, f, rfl, hb g rfl, rest⟩
theorem OwnM.low {w : World} {base base' : Nat} {v : Value} {bs : List UInt8} (h : OwnM w base v bs) (hb : base' ≤ base) : OwnM w base' v bs :=
  h.base fun k hk => Nat.le_trans hb (h.lt k hk).1
theorem OwnM.one {w : World} {base : Nat} {v : Value} {bs : List UInt8} (h : OwnM w base v bs) : v.oneCell' = true := by
  rcases h with ⟨rfl, _⟩ | ⟨g, cap, cur, f, rfl, _⟩ <;> rfl
theorem OwnM.at {w : World} {base g n cap : Nat} {bs : List UInt8} (h : OwnM w base (.slice (some ⟨g, 0, none⟩) n cap) bs) : At w g 0 bs := by
  rcases h with ⟨e, _⟩ | ⟨g', cap', cur, f, e, hb, hg, hnc, hcm, hcs, ht, hf⟩
  · cases e
  · simp only [Value.slice.injEq, Option.some.injEq, Addr.mk.injEq] at e
    obtain ⟨⟨rfl, _⟩, _, rfl⟩ := e
    intro i hi
    rw [cell_of_row w g _ cur _ f hg]
    have h2 : (cur.toList.take bs.length)[i]? = some (B bs[i]) := by rw [ht]; simp [hi]
    rw [List.getElem?_take, if_pos hi] at h2
    simpa using h2
theorem OwnM.sl {w : World} {base : Nat} {v : Value} {bs : List UInt8} (h : OwnM w base v bs) : Sl base w v bs := by
  have h' := h
  rcases h with ⟨rfl, rfl⟩ | ⟨g, cap, cur, f, rfl, hb, hg, hnc, hcm, hcs, ht, hf⟩
  · exact Sl.nil base w
  · exact ⟨_, cap, rfl, hnc, (by intro e; cases e), fun hbs => ⟨g, 0, rfl, hb, h'.at⟩⟩
theorem rows_apartM {w : World} {base base' n : Nat} {v u : Value} {xs : List Value} {bs : List UInt8} {g : Nat} (h : w.ownsRow base 27 1 v n xs) (k : OwnM w base' u bs) (hv : v.ownBlock = some g) : u.ownBlock ≠ some g := by
  intro hu
  obtain ⟨_, ⟨rfl, _⟩ | ⟨g1, cap, cur, rfl, hb, hg, _⟩⟩ := h
  · cases hv
  · rcases k with ⟨rfl, _⟩ | ⟨g2, cap2, cur2, f, rfl, hb2, hg2, _⟩
    · cases hu
    · cases hv
      cases hu
      rw [hg] at hg2
      simp at hg2

/-- The slice v reads as a row of own rows, each in a block of its own, all from base on. -/
structure Recs (w : World) (base : Nat) (v : Value) (L : List (List UInt8)) (vs : List Value) : Prop where
  row : OwnV w base v vs
  len : vs.length = L.length
  each : ∀ i (h1 : i < vs.length) (h2 : i < L.length), OwnM w base vs[i] L[i]
  nd : (vs.filterMap Value.ownBlock).Nodup

theorem Recs.nil (w : World) (base : Nat) : Recs w base (.slice none 0 0) [] [] := ⟨OwnV.nil _ _, rfl, fun i h => by simp at h, by simp⟩
theorem Recs.up {w w' : World} {base : Nat} {v : Value} {L : List (List UInt8)} {vs : List Value} (h : Recs w base v L vs) (u : Up w w') : Recs w' base v L vs :=
  ⟨ownsRow_up h.row u, h.len, fun i h1 h2 => (h.each i h1 h2).up u, h.nd⟩
theorem Recs.but {w w' : World} {base r : Nat} {v : Value} {L : List (List UInt8)} {vs : List Value} (h : Recs w base v L vs) (u : But r w w') (hr : r < base) : Recs w' base v L vs :=
  ⟨ownsRow_but h.row u (fun e => by have := (World.ownsRow.lt h.row r e).1; omega), h.len, fun i h1 h2 => (h.each i h1 h2).grown u (fun g hg e => by have := ((h.each i h1 h2).lt g hg).1; cases e; omega), h.nd⟩
theorem Recs.low {w : World} {base base' : Nat} {v : Value} {L : List (List UInt8)} {vs : List Value} (h : Recs w base v L vs) (hb : base' ≤ base) : Recs w base' v L vs :=
  ⟨ownsRow_low h.row hb, h.len, fun i h1 h2 => (h.each i h1 h2).low hb, h.nd⟩
theorem Recs.mem {w : World} {base : Nat} {v : Value} {L : List (List UInt8)} {vs : List Value} (h : Recs w base v L vs) {k : Nat} (hk : k ∈ vs.filterMap Value.ownBlock) : base ≤ k ∧ k < w.heap.size ∧ v.ownBlock ≠ some k := by
  obtain ⟨u, hu, e⟩ := List.mem_filterMap.1 hk
  obtain ⟨i, hi, rfl⟩ := List.getElem_of_mem hu
  have o := h.each i hi (by rw [← h.len]; exact hi)
  refine ⟨(o.lt k e).1, (o.lt k e).2, fun hv => rows_apartM h.row o hv e⟩
theorem Recs.one {w : World} {base : Nat} {v : Value} {L : List (List UInt8)} {vs : List Value} (h : Recs w base v L vs) : ∀ u ∈ vs, u.oneCell' = true := by
  intro u hu
  obtain ⟨i, hi, rfl⟩ := List.getElem_of_mem hu
  exact (h.each i hi (by rw [← h.len]; exact hi)).one
theorem Recs.rw {w : World} {base : Nat} {v : Value} {L : List (List UInt8)} {vs : List Value} (h : Recs w base v L vs) : Rw w v L := by
  rcases h.row.parts with ⟨rfl, rfl⟩ | ⟨g, cap, cur, rfl, hb, hlt, hg, hnc, hcm, hcs, ht⟩
  · have : L = [] := List.eq_nil_of_length_eq_zero h.len.symm
    subst this
    exact ⟨none, 0, rfl, Nat.zero_le _, fun h => absurd rfl h⟩
  · refine ⟨some ⟨g, 0, none⟩, cap, by rw [h.len], by rw [← h.len]; exact hnc, fun _ => ⟨g, 0, rfl, fun i hi => ⟨vs[i]'(by rw [h.len]; exact hi), ?_, (h.each i _ hi).sl.mono (Nat.zero_le _)⟩⟩⟩
    obtain ⟨g', cap', e, hc⟩ := h.row.cell i (by rw [h.len]; exact hi)
    simp only [Value.slice.injEq, Option.some.injEq, Addr.mk.injEq] at e
    obtain ⟨⟨rfl, _⟩, _⟩ := e
    rw [Nat.zero_add]; exact hc
theorem Recs.slice {w : World} {base : Nat} {v : Value} {L : List (List UInt8)} {vs : List Value} (h : Recs w base v L vs) : ∃ ao cap, v = .slice ao L.length cap := by
  rw [← h.len]; exact h.row.len
/-- The row has grown by rows that lie above it. -/
theorem Recs.append {w w' : World} {base base' : Nat} {v v2 v' : Value} {L M : List (List UInt8)} {vs us : List Value} (h : Recs w base v L vs) (k : Recs w base' v2 M us) (hlow : base ≤ base') (hnd : ∀ x ∈ vs.filterMap Value.ownBlock, x < base')
    (hv : ∀ x, v.ownBlock = some x → x < base') (ho : OwnV w' base v' (vs ++ us)) (hg : w.grownBy w' v.ownBlock) : Recs w' base v' (L ++ M) (vs ++ us) := by
  refine ⟨ho, by rw [List.length_append, List.length_append, h.len, k.len], fun i h1 h2 => ?_, ?_⟩
  · by_cases hi : i < vs.length
    · have hi2 : i < L.length := by rw [← h.len]; exact hi
      rw [List.getElem_append_left hi, List.getElem_append_left hi2]
      exact (h.each i hi hi2).grown hg (fun g hgg e => rows_apartM h.row (h.each i hi hi2) e hgg)
    · have e := h.len
      have hi1 : i - vs.length < us.length := by rw [List.length_append] at h1; omega
      have hi2 : i - L.length < M.length := by rw [List.length_append] at h2; omega
      rw [List.getElem_append_right (by omega), List.getElem_append_right (by omega)]
      have o := k.each (i - vs.length) hi1 (by rw [← k.len]; exact hi1)
      have e2 : i - L.length = i - vs.length := by omega
      simp only [e2]
      exact (o.grown hg (fun g hgg e => by have := hv g e; have := (o.lt g hgg).1; omega)).low hlow
  · rw [List.filterMap_append, List.nodup_append]
    exact ⟨h.nd, k.nd, fun x hx y hy e => by subst e; have := hnd x hx; have := (k.mem hy).1; omega⟩

/-- One record more, that lies above. -/
theorem Recs.snoc {w w' : World} {base base' : Nat} {v v' u : Value} {L : List (List UInt8)} {vs : List Value} {bs : List UInt8} (h : Recs w base v L vs) (k : OwnM w base' u bs) (hlow : base ≤ base') (hnd : ∀ x ∈ vs.filterMap Value.ownBlock, x < base')
    (ho : OwnV w' base v' (vs ++ [u])) (hg : w.grownBy w' v.ownBlock) : Recs w' base v' (L ++ [bs]) (vs ++ [u]) := by
  refine ⟨ho, by simp [h.len], fun i h1 h2 => ?_, ?_⟩
  · by_cases hi : i < vs.length
    · have hi2 : i < L.length := by rw [← h.len]; exact hi
      rw [List.getElem_append_left hi, List.getElem_append_left hi2]
      exact (h.each i hi hi2).grown hg (fun g hgg e => rows_apartM h.row (h.each i hi hi2) e hgg)
    · have e := h.len
      have hi1 : i = vs.length := by simp at h1; omega
      subst hi1
      rw [List.getElem_append_right (by omega), List.getElem_append_right (by omega)]
      simp only [Nat.sub_self, List.getElem_cons_zero, e]
      exact (k.grown hg (fun g hgg e => rows_apartM h.row k e hgg)).low hlow
  · rw [List.filterMap_append, List.nodup_append]
    refine ⟨h.nd, ?_, fun x hx y hy e => ?_⟩
    · cases hu : u.ownBlock <;> simp [hu]
    · subst e
      have h1 := hnd x hx
      obtain ⟨u', hu, e⟩ := List.mem_filterMap.1 hy
      simp at hu
      subst hu
      have := (k.lt x e).1
      omega

/-- A copy into the midst of an own row. -/
def ovr (d : List UInt8) (p : Nat) (cs : List UInt8) : List UInt8 := d.take p ++ cs ++ d.drop (p + cs.length)
theorem ovr_length {d : List UInt8} {p : Nat} {cs : List UInt8} (h : p + cs.length ≤ d.length) : (ovr d p cs).length = d.length := by
  simp only [ovr, List.length_append, List.length_take, List.length_drop]; omega
theorem copy_in {w : World} {base base' g n cap : Nat} {d cs : List UInt8} {v : Value} (h : Own w 5 base (.slice (some ⟨g, 0, none⟩) n cap) d) (p o : Nat) (hs : Sl base' w v cs) (hfit : p + cs.length ≤ d.length) (ho : cs ≠ [] → o = p) (dl dc : Nat) (hd : cs.length ≤ dl) :
    ∃ w1, (Builtin.copy_ #[27, 27] 3 #[.slice (some ⟨g, o, none⟩) dl dc, v]).run Tryd.prog w = .ok (.int .i64 cs.length) w1 ∧ Own w1 5 base (.slice (some ⟨g, 0, none⟩) n cap) (ovr d p cs) ∧ But g w w1 := by
  obtain ⟨i0, hi, hz0, hz1, hz2⟩ := info_parts Tryd.infoU8
  have hsz : (Tryd.prog.info? 5).map (·.size) = some 1 := by rw [hi]; simp [hz1]
  obtain ⟨ao, c, rfl, hc, hn, hx⟩ := hs
  obtain ⟨hl, ⟨e, _⟩ | ⟨g', cap', cur, e, hb, hg, hnc, hcm, hcs, ht⟩⟩ := h
  · cases e
  · simp only [Value.slice.injEq, Option.some.injEq, Addr.mk.injEq] at e
    obtain ⟨⟨rfl, _⟩, rfl, rfl⟩ := e
    by_cases hb0 : cs = []
    · subst hb0
      have eov : ovr d p [] = d := by simp [ovr]
      refine ⟨w, ?_, ⟨by rw [eov]; exact hl, .inr ⟨g, cap, cur, by rw [eov], hb, hg, by rw [eov]; exact hnc, hcm, hcs, by rw [eov]; exact ht⟩⟩, But.refl _ _⟩
      cases ao with
      | none =>
        obtain rfl := hn rfl
        exact run_copy_nil (P := Tryd.prog) _ _ _ _ _ _ _ _ Tryd.underlying27 (by rw [hsz]; rfl)
      | some a =>
        have h := run_copy_row (P := Tryd.prog) w 27 27 3 5 g 0 dl dc a 0 c cur 5 [] Tryd.underlying27 hsz hg (by simp) (by simp) (by simp) (by simp)
        rw [show cur.toList.take 0 ++ [] ++ cur.toList.drop (0 + ([] : List Value).length) = cur.toList by simp, Array.toArray_toList, setRow_self _ _ _ _ _ hg] at h
        have e0 : (Builtin.copy_ #[27, 27] 3 #[.slice (some ⟨g, o, none⟩) dl dc, .slice (some a) 0 c]).run Tryd.prog w = (Builtin.copy_ #[27, 27] 3 #[.slice (some ⟨g, 0, none⟩) dl dc, .slice (some a) 0 c]).run Tryd.prog w := by
          simp [Builtin.copy_, run_underlying Tryd.underlying27, Builtin.lenOf, Builtin.firstCells, sizeOf, typeInfo, hi, storeCells, loadCells, loadCellsFrom]
        exact e0.trans h
    · obtain rfl := ho hb0
      obtain ⟨b, q, rfl, _, ha⟩ := hx hb0
      have hle : d.length ≤ cap := by simpa using hnc
      have h := run_copy_row (P := Tryd.prog) w 27 27 3 5 g o dl dc ⟨b, q, none⟩ cs.length c cur 5 (Bv cs) Tryd.underlying27 hsz hg (by rw [List.length_map]; exact (Nat.min_eq_left hd).symm) ha.add (by simp at hcs ⊢; omega) (Bv_one cs)
      rw [show goInt (Bv cs).length = .int .i64 cs.length by simp [goInt]] at h
      have hov := ovr_length hfit
      refine ⟨_, h, ⟨by simp [hov], .inr ⟨g, cap, _, by rw [hov], hb, setRow_heap _ _ _ _ _ _ hg, by rw [hov]; exact hnc, hcm, ?_, ?_⟩⟩, ⟨rfl, rfl, rfl, by simp, fun k hk hne => setRow_other _ _ _ _ (by intro e; exact hne (by rw [e]))⟩⟩
      · simp at hcs ⊢; omega
      · have ht2 : cur.toList.take d.length = Bv d := by simpa using ht
        suffices hs : ((cur.toList.take o ++ Bv cs ++ cur.toList.drop (o + (Bv cs).length)).toArray.toList.take (ovr d o cs).length) = Bv (ovr d o cs) by
          rw [Nat.mul_one]; exact hs
        rw [hov, List.toList_toArray]
        have e1 : Bv (ovr d o cs) = (Bv d).take o ++ Bv cs ++ (Bv d).drop (o + cs.length) := by simp [ovr, Bv, List.map_append, List.map_take, List.map_drop]
        have e2 : (Bv d).take o = cur.toList.take o := by
          rw [← ht2, List.take_take, Nat.min_eq_left (by omega)]
        have e3 : (Bv d).drop (o + cs.length) = (cur.toList.drop (o + cs.length)).take (d.length - (o + cs.length)) := by
          rw [← ht2, List.drop_take]
        rw [e1, e2, e3]
        have h1 : (cur.toList.take o ++ Bv cs).length = o + cs.length := by simp at hcs ⊢; omega
        rw [List.take_append, List.take_of_length_le (by rw [h1]; omega), h1, List.length_map]
end Go.Proofs.YtkfjkfpodkbkaaaDoor

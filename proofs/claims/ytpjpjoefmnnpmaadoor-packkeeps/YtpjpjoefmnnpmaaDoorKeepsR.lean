/- For the law PackKeeps: the book that grows by three, and what a round keeps in memory. -/
import Derived.Test.YtpjpjoefmnnpmaaDoorApart1
import Derived.Test.YtpjpjoefmnnpmaaDoorCalledW
set_option linter.unusedVariables false
namespace Go.Proofs.YtpjpjoefmnnpmaaDoor
open Go Go.RowKit

/-- The book: n own rows of bytes, no two in one block. -/
structure Bk (w0 w : World) (vb : Value) (n : Nat) : Prop where
  ex : ∃ V L, OwnB w w0.heap.size vb n V ∧ Lists w w0.heap.size n V L ∧ Dis n V ∧ ∀ j, j < n → ((L j).length : Int) ≤ 1000000
  up : Up w0 w
theorem Bk.start (w : World) : Bk w w (.slice none 0 0) 0 :=
  ⟨⟨fun _ => .slice none 0 0, fun _ => [], World.ownsRow_nil w _ _ 1, fun j hj => by omega, fun i j g hi => by omega, fun j hj => by omega⟩, Up.refl _⟩
theorem Bk.grow {w0 w w' : World} {vb : Value} {n : Nat} (h : Bk w0 w vb n) (hu : Up w w') : Bk w0 w' vb n := by
  obtain ⟨⟨V, L, h1, h2, h3, h4⟩, h5⟩ := h
  exact ⟨⟨V, L, ownsRow_up h1 hu, fun j hj => ownsRow_up (h2 j hj) hu, h3, h4⟩, h5.trans hu⟩
theorem Bk.apart {w0 w : World} {vb : Value} {n : Nat} (h : Bk w0 w vb n) (hn : (n : Int) ≤ 192) :
    Calls Tryd.prog 31 #[vb] w fun e w' => e = .returned (.bool true) ∧ Up w0 w' := by
  obtain ⟨⟨V, L, h1, h2, h3, h4⟩, h5⟩ := h
  exact (apart_any vb n V L w w0.heap.size h1 h2 h3 hn h4 h5.size).mono fun e w' ⟨a, b⟩ => ⟨a, Below.trans h5 b⟩

def put3 {α : Type} (n : Nat) (G : Nat → α) (l0 l1 l2 : α) : Nat → α := fun j => if j = n then l0 else if j = n + 1 then l1 else if j = n + 2 then l2 else G j
theorem put3_0 {α : Type} (n : Nat) (G : Nat → α) (l0 l1 l2 : α) : put3 n G l0 l1 l2 n = l0 := if_pos rfl
theorem put3_1 {α : Type} (n : Nat) (G : Nat → α) (l0 l1 l2 : α) : put3 n G l0 l1 l2 (n + 1) = l1 := by unfold put3; rw [if_neg (by omega), if_pos rfl]
theorem put3_2 {α : Type} (n : Nat) (G : Nat → α) (l0 l1 l2 : α) : put3 n G l0 l1 l2 (n + 2) = l2 := by unfold put3; rw [if_neg (by omega), if_neg (by omega), if_pos rfl]
theorem put3_lt {α : Type} (n : Nat) (G : Nat → α) (l0 l1 l2 : α) (j : Nat) (h : j < n) : put3 n G l0 l1 l2 j = G j := by unfold put3; rw [if_neg (by omega), if_neg (by omega), if_neg (by omega)]
theorem range_three (n : Nat) (G : Nat → Value) (l0 l1 l2 : Value) : (List.range (n + 3)).map (put3 n G l0 l1 l2) = (List.range n).map G ++ [l0, l1, l2] := by
  rw [List.range_succ, List.range_succ, List.range_succ]
  simp only [List.map_append, List.map_cons, List.map_nil, List.append_assoc]
  congr 1
  · apply List.map_congr_left
    intro j hj
    have := List.mem_range.1 hj
    unfold put3
    rw [if_neg (by omega), if_neg (by omega), if_neg (by omega)]
  · simp [put3]

theorem own_one {w : World} {base : Nat} {v : Value} {bs : List UInt8} (h : Own w 5 base v bs) : v.oneCell' = true := by
  obtain ⟨ao, cap, rfl, _⟩ := h.shape
  rfl
theorem own_keep {w w' : World} {base : Nat} {v : Value} {bs : List UInt8} {row : Option Nat} (h : Own w 5 base v bs) (hg : w.grownBy w' row) (hr : ∀ g, row = some g → v.ownBlock ≠ some g) : Own w' 5 base v bs :=
  ownsRow_kept h fun g hgb => hg.block g (World.ownsRow.lt h g hgb).2 (by intro e; exact hr g e.symm hgb)
theorem own_low {w : World} {base base' : Nat} {v : Value} {bs : List UInt8} (h : Own w 5 base v bs) (hb : base' ≤ base) : Own w 5 base' v bs := h.mono hb

/-- append(book, c, d, g) at a round's end: the book was there at W0; the three are own rows behind W0. -/
theorem wpList_book3 {ops : Array Oper} {rest : List Oper} {o : Oper} {a : Act} {Q : Exit → Act → World → Prop} (w0 W0 w : World) (hgd : o.guard = none) (s x : Operand)
    (ho : o.op = .call { callee := .builtin .append, args := #[s, x], argTypes := #[57, 57] }) (vb : Value) (n : Nat) (hs : a.eval s = vb) (l0 l1 l2 : Value) (C0 C1 C2 : List UInt8)
    (hx : a.eval x = .slice (some ⟨w.heap.size, 0, none⟩) 3 3) (h : Bk w0 W0 vb n) (hu : Up W0 w)
    (o0 : Own w 5 W0.heap.size l0 C0) (o1 : Own w 5 W0.heap.size l1 C1) (o2 : Own w 5 W0.heap.size l2 C2)
    (d01 : ∀ g, l0.ownBlock = some g → l1.ownBlock ≠ some g) (d02 : ∀ g, l0.ownBlock = some g → l2.ownBlock ≠ some g) (d12 : ∀ g, l1.ownBlock = some g → l2.ownBlock ≠ some g)
    (b0 : (C0.length : Int) ≤ 1000000) (b1 : (C1.length : Int) ≤ 1000000) (b2 : (C2.length : Int) ≤ 1000000) (hn : (n : Int) ≤ 192)
    (hK : ∀ v' w', Bk w0 w' v' (n + 3) → wpList Tryd.prog ops Q rest (a.put o.dst v') w') :
    wpList Tryd.prog ops Q (o :: rest) a (w.alloc (.cells #[l0, l1, l2] 25)) := by
  obtain ⟨i0, hi, hz0, hz1, hz2⟩ := info_parts Tryd.infoSl
  obtain ⟨⟨V, L, q1, q2, q3, q4⟩, q5⟩ := h
  have hsz := q5.size
  have hszu := hu.size
  have vlow : ∀ j, j < n → ∀ g, (V j).ownBlock = some g → g < W0.heap.size := fun j hj g hg => (World.ownsRow.lt (q2 j hj) g hg).2
  have blow : ∀ g, vb.ownBlock = some g → g < W0.heap.size := fun g hg => (World.ownsRow.lt q1 g hg).2
  have hi0 : ∀ g, l0.ownBlock = some g → W0.heap.size ≤ g := fun g hg => (World.ownsRow.lt o0 g hg).1
  have hi1 : ∀ g, l1.ownBlock = some g → W0.heap.size ≤ g := fun g hg => (World.ownsRow.lt o1 g hg).1
  have hi2 : ∀ g, l2.ownBlock = some g → W0.heap.size ≤ g := fun g hg => (World.ownsRow.lt o2 g hg).1
  have q1' : OwnB w w0.heap.size vb n V := ownsRow_up q1 hu
  have q2' : Lists w w0.heap.size n V L := fun j hj => ownsRow_up (q2 j hj) hu
  refine wpList_append_own _ hgd s x 57 ho w0.heap.size 25 i0 (.slice none 0 0) 1 24 Tryd.underlying57 hi hz0 hz1 hz2 rfl (by decide) vb n ((List.range n).map V) hs (World.ownsRow.alloc q1' _) ⟨w.heap.size, 0, none⟩ 3 3 [l0, l1, l2] hx rfl ?_ ?_ ?_ ?_ ?_ ?_
  · intro j u hj
    rw [Addr.add_lit, cell_of_row _ _ _ _ _ _ (heap_alloc_new _ _)]
    match j, hj with
    | 0, hj => simpa using hj
    | 1, hj => simpa using hj
    | 2, hj => simpa using hj
  · intro u hu
    simp only [List.mem_cons, List.not_mem_nil, or_false] at hu
    rcases hu with rfl | rfl | rfl
    · exact own_one o0
    · exact own_one o1
    · exact own_one o2
  · unfold maxLen; omega
  · omega
  · simp; omega
  · intro v' w' h1 h2 _
    have hgw : w.grownBy w' vb.ownBlock := ⟨h2.os, h2.tape, h2.output, by have := h2.size; simp at this; omega, fun k hk hne => by
      rw [h2.block k (by simp; omega) hne]
      exact ((Up.alloc w _).block k hk)⟩
    refine hK v' w' ⟨⟨put3 n V l0 l1 l2, put3 n L C0 C1 C2, ?_, ?_, ?_, ?_⟩, Below.trans (q5.trans hu) (((Below.refl w0.heap.size w).alloc (by omega) _).grown h2 (by simp; omega) (fun k hk => (World.ownsRow.lt q1 k hk).1))⟩
    · unfold OwnB
      rw [range_three]
      simpa using h1
    · intro j hj
      have hnb : ∀ g, vb.ownBlock = some g → ∀ (u : Value) (q : Nat), u.ownBlock = some q → W0.heap.size ≤ q → q ≠ g := fun g hg u q _ hq => by have := blow g hg; omega
      by_cases e0 : j = n
      · subst e0; rw [put3_0, put3_0]
        exact own_low (own_keep o0 hgw (fun g hg e => hnb g hg _ g e (hi0 g e) rfl)) hsz
      by_cases e1 : j = n + 1
      · subst e1; rw [put3_1, put3_1]
        exact own_low (own_keep o1 hgw (fun g hg e => hnb g hg _ g e (hi1 g e) rfl)) hsz
      by_cases e2 : j = n + 2
      · subst e2; rw [put3_2, put3_2]
        exact own_low (own_keep o2 hgw (fun g hg e => hnb g hg _ g e (hi2 g e) rfl)) hsz
      · have hjn : j < n := by omega
        rw [put3_lt _ _ _ _ _ _ hjn, put3_lt _ _ _ _ _ _ hjn]
        exact own_keep (q2' j hjn) hgw (fun g hg => rows_apart q1' (q2' j hjn) hg)
    · intro i j g hi' hj' e1 e2
      have cls : ∀ j, j < n + 3 → j = n ∨ j = n + 1 ∨ j = n + 2 ∨ j < n := fun j hj => by omega
      rcases cls i hi' with rfl | rfl | rfl | hin <;> rcases cls j hj' with hj | hj | hj | hjn
      all_goals first
        | omega
        | (exfalso; subst hj; simp only [put3_0, put3_1, put3_2] at e1 e2; first | exact d01 g e1 e2 | exact d01 g e2 e1 | exact d02 g e1 e2 | exact d02 g e2 e1 | exact d12 g e1 e2 | exact d12 g e2 e1)
        | (exfalso; rw [put3_lt _ _ _ _ _ _ hjn] at e2; simp only [put3_0, put3_1, put3_2] at e1; have := vlow j hjn g e2; first | (have := hi0 g e1; omega) | (have := hi1 g e1; omega) | (have := hi2 g e1; omega))
        | (exfalso; subst hj; rw [put3_lt _ _ _ _ _ _ hin] at e1; simp only [put3_0, put3_1, put3_2] at e2; have := vlow i hin g e1; first | (have := hi0 g e2; omega) | (have := hi1 g e2; omega) | (have := hi2 g e2; omega))
        | (rw [put3_lt _ _ _ _ _ _ hin] at e1; rw [put3_lt _ _ _ _ _ _ hjn] at e2; exact q3 i j g hin hjn e1 e2)
    · intro j hj
      by_cases e0 : j = n
      · subst e0; rw [put3_0]; exact b0
      by_cases e1 : j = n + 1
      · subst e1; rw [put3_1]; exact b1
      by_cases e2 : j = n + 2
      · subst e2; rw [put3_2]; exact b2
      · rw [put3_lt _ _ _ _ _ _ (by omega)]; exact q4 j (by omega)
end Go.Proofs.YtpjpjoefmnnpmaaDoor

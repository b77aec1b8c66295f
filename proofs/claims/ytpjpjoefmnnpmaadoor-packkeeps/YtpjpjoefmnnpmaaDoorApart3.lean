/- The law apart: what its second loop keeps, list by list. -/
import Derived.Test.YtpjpjoefmnnpmaaDoorApart2
set_option linter.unusedVariables false
namespace Go.Proofs.YtpjpjoefmnnpmaaDoor
open Go Go.RowKit

/-- Ahead of list i's growing. -/
structure Grew (w0 : World) (base B0 n i : Nat) (vb vg : Value) (V G : Nat → Value) (len : Nat → Nat) (w : World) : Prop where
  grown : OwnB w B0 vg i G
  book : OwnB w base vb n V
  reads : ∀ j, j < n → ∀ g c, V j = .slice (some ⟨g, 0, none⟩) (len j) c → At w g 0 (marks j (len j))
  done : ∀ j, j < i → Own w 5 base (G j) (marks j (len j + 16))
  src : ∀ j, j < i → (G j).ownBlock = (V j).ownBlock ∨ ∀ g, (G j).ownBlock = some g → B0 ≤ g
  disG : Dis i G
  rest : ∀ j, i ≤ j → j < n → Own w 5 base (V j) (marks j (len j))
  up : Below base w0 w
  hB0 : B0 ≤ w.heap.size
  hbase : base ≤ B0

theorem Grew.kept {w0 w w' : World} {base B0 n i : Nat} {vb vg : Value} {V G : Nat → Value} {len : Nat → Nat} (h : Grew w0 base B0 n i vb vg V G len w) (hu : Up w w') : Grew w0 base B0 n i vb vg V G len w' :=
  ⟨ownsRow_up h.grown hu, ownsRow_up h.book hu, fun j hj g c e => (h.reads j hj g c e).up hu, fun j hj => ownsRow_up (h.done j hj) hu, h.src, h.disG, fun j h1 h2 => ownsRow_up (h.rest j h1 h2) hu,
    Below.trans h.up (hu.mono (Nat.le_trans h.hbase h.hB0)), Nat.le_trans h.hB0 hu.size, h.hbase⟩

theorem Grew.start {w0 w : World} {base B0 n i : Nat} {vb vg : Value} {V G : Nat → Value} {len : Nat → Nat} (h : Grew w0 base B0 n i vb vg V G len w) (hi : i < n) :
    Two w0 base B0 w.heap.size n i vb vg (V i) V G len (len i) w :=
  ⟨h.grown, h.book, h.reads, h.done, h.src, h.disG, fun j h1 h2 => h.rest j (by omega) h2, h.up, h.rest i (Nat.le_refl _) hi, .inl rfl,
    fun j hj g hg => (World.ownsRow.lt (h.done j hj) g hg).2, Nat.le_refl _, h.hB0, h.hbase⟩

/-- l's block is no grown list's. -/
theorem Two.apartG {w0 w : World} {base B0 Bi n i p : Nat} {vb vg l : Value} {V G : Nat → Value} {len : Nat → Nat} (h : Two w0 base B0 Bi n i vb vg l V G len p w) (hd : Dis n V) (hi : i < n)
    (vlow : ∀ j, j < n → ∀ g, (V j).ownBlock = some g → g < B0) (j : Nat) (hj : j < i) (g : Nat) (hl : l.ownBlock = some g) : (G j).ownBlock ≠ some g := by
  intro e
  rcases h.lsrc with h1 | h1
  · rw [hl] at h1
    rcases h.src j hj with h2 | h2
    · have := hd j i g (by omega) hi (by rw [← h2, e]) h1.symm
      omega
    · have h3 := h2 g e
      have h4 := vlow i hi g h1.symm
      omega
  · have h2 := h1 g hl
    have h3 := h.low j hj g e
    omega

/-- List i, grown by sixteen, is put behind the others in the row of the grown. -/
theorem Two.next {w0 w w' : World} {base B0 Bi n i : Nat} {vb vg vg' l : Value} {V G : Nat → Value} {len : Nat → Nat} (h : Two w0 base B0 Bi n i vb vg l V G len (len i + 16) w) (hd : Dis n V) (hi : i < n)
    (vlow : ∀ j, j < n → ∀ g, (V j).ownBlock = some g → g < B0) (blow : ∀ g, vb.ownBlock = some g → g < B0)
    (hown : OwnB w' B0 vg' (i + 1) (fun j => if j = i then l else G j)) (hg : w.grownBy w' vg.ownBlock) (hup : Below base w0 w') :
    Grew w0 base B0 n (i + 1) vb vg' V (fun j => if j = i then l else G j) len w' := by
  have hbytes : ∀ {b0 : Nat} {u : Value} {bs : List UInt8}, Own w 5 b0 u bs → Own w' 5 b0 u bs := by
    intro b0 u bs hx
    refine ownsRow_kept hx fun g hgu => hg.block g (World.ownsRow.lt hx g hgu).2 (fun e => ?_)
    exact rows_apart h.grown hx e.symm hgu
  have hlow : ∀ g, vg.ownBlock = some g → B0 ≤ g := fun g e => (World.ownsRow.lt h.grown g e).1
  refine ⟨hown, ?_, ?_, ?_, ?_, ?_, fun j h1 h2 => hbytes (h.rest j (by omega) h2), hup, Nat.le_trans h.hB0 (Nat.le_trans h.hBi hg.size), h.hbase⟩
  · refine ownsRow_kept h.book fun g hgu => hg.block g (World.ownsRow.lt h.book g hgu).2 (fun e => ?_)
    have h1 := hlow g e.symm
    have h2 := blow g hgu
    omega
  · intro j hj g c e
    have ha := h.reads j hj g c e
    intro t ht
    have hlt : g < w.heap.size := World.block_lt_of_cell? w _ (ha t ht)
    have hk := hg.block g hlt (fun e2 => by
      have h1 := hlow g e2.symm
      have h2 := vlow j hj g (by rw [e]; rfl)
      omega)
    exact ha.kept hk t ht
  · intro j hj
    by_cases e : j = i
    · subst e; simp only [if_true]; exact hbytes h.lown
    · simp only [if_neg e]; exact hbytes (h.done j (by omega))
  · intro j hj
    by_cases e : j = i
    · subst e
      simp only [if_true]
      rcases h.lsrc with h1 | h1
      · exact .inl h1
      · exact .inr fun g hgl => Nat.le_trans h.hB0 (h1 g hgl)
    · simp only [if_neg e]; exact h.src j (by omega)
  · intro a b g ha hb h1 h2
    by_cases ea : a = i
    · by_cases eb : b = i
      · omega
      · subst ea
        simp only [if_true] at h1
        simp only [if_neg eb] at h2
        exact absurd h2 (h.apartG hd hi vlow b (by omega) g h1)
    · by_cases eb : b = i
      · subst eb
        simp only [if_true] at h2
        simp only [if_neg ea] at h1
        exact absurd h1 (h.apartG hd hi vlow a (by omega) g h2)
      · simp only [if_neg ea] at h1
        simp only [if_neg eb] at h2
        exact h.disG a b g (by omega) (by omega) h1 h2

theorem Tryd.infoSl : (Tryd.prog.info? 25).map (fun i => (i.zero, i.size, i.bytes)) = some (some (.slice none 0 0), 1, 24) := by kernel_rfl
theorem range_next (i : Nat) (G : Nat → Value) (l : Value) : (List.range (i + 1)).map (fun j => if j = i then l else G j) = (List.range i).map G ++ [l] := by
  rw [List.range_succ, List.map_append]
  congr 1
  · apply List.map_congr_left
    intro j hj
    have := List.mem_range.1 hj
    rw [if_neg (by omega)]
  · simp

/-- append(s, u) where s is an own row of slices, and u the one slice of a new block. -/
theorem wpList_pushB {ops : Array Oper} {rest : List Oper} {o : Oper} {a : Act} {Q : Exit → Act → World → Prop} (w : World) (hgd : o.guard = none) (s x : Operand)
    (ho : o.op = .call { callee := .builtin .append, args := #[s, x], argTypes := #[57, 57] }) (base : Nat) (v : Value) (i : Nat) (G : Nat → Value) (hs : a.eval s = v) (l : Value) (hl1 : l.oneCell' = true)
    (hx : a.eval x = .slice (some ⟨w.heap.size, 0, none⟩) 1 1) (how : OwnB w base v i G) (hbase : base ≤ w.heap.size) (hl : i ≤ 1000000)
    (hK : ∀ v' w', OwnB w' base v' (i + 1) (fun j => if j = i then l else G j) → Below base w w' → w.grownBy w' v.ownBlock → wpList Tryd.prog ops Q rest (a.put o.dst v') w') :
    wpList Tryd.prog ops Q (o :: rest) a (w.alloc (.cells #[l] 25)) := by
  obtain ⟨i0, hi, hz0, hz1, hz2⟩ := info_parts Tryd.infoSl
  refine wpList_append_own _ hgd s x 57 ho base 25 i0 (.slice none 0 0) 1 24 Tryd.underlying57 hi hz0 hz1 hz2 rfl (by decide) v i ((List.range i).map G) hs (World.ownsRow.alloc how _) ⟨w.heap.size, 0, none⟩ 1 1 [l] hx rfl ?_ ?_ ?_ ?_ ?_ ?_
  · intro j u hj
    match j, hj with
    | 0, hj => simp at hj; subst hj; rw [Addr.add_lit, cell_of_row _ _ _ _ _ _ (heap_alloc_new _ _)]; rfl
  · intro u hu; simp at hu; subst hu; exact hl1
  · unfold maxLen; omega
  · omega
  · simp; omega
  · intro v' w' h1 h2 _
    have hblk : ∀ k, v.ownBlock = some k → base ≤ k ∧ k < w.heap.size := fun k hk => World.ownsRow.lt how k hk
    refine hK v' w' (by unfold OwnB; rw [range_next]; exact h1) (((Below.refl base w).alloc hbase _).grown h2 (by simp; omega) (fun k hk => (hblk k hk).1)) ?_
    refine ⟨h2.os, h2.tape, h2.output, by have := h2.size; simp at this; omega, fun k hk hne => ?_⟩
    rw [h2.block k (by simp; omega) hne]
    exact ((Up.alloc w _).block k hk)
end Go.Proofs.YtpjpjoefmnnpmaaDoor

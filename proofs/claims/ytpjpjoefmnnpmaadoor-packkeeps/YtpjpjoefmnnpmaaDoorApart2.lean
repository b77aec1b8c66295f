/- The law apart: what stays while one list is grown behind its marks. -/
import Derived.Test.YtpjpjoefmnnpmaaDoorApart
set_option linter.unusedVariables false
namespace Go.Proofs.YtpjpjoefmnnpmaaDoor
open Go Go.RowKit

theorem At.kept {w w' : World} {b o : Nat} {bs : List UInt8} (h : At w b o bs) (hk : w'.heap[b]? = w.heap[b]?) : At w' b o bs := by
  intro i hi
  have : w'.cell? ⟨b, o + i, none⟩ = w.cell? ⟨b, o + i, none⟩ := by simp only [World.cell?, hk]
  rw [this]; exact h i hi
theorem At.butX {w w' : World} {b o g : Nat} {bs : List UInt8} (h : At w b o bs) (hb : But g w w') (hne : b ≠ g) : At w' b o bs := by
  intro i hi
  have hlt : b < w.heap.size := World.block_lt_of_cell? w _ (h i hi)
  have hk := hb.block b hlt (by intro e; apply hne; exact Option.some.inj e)
  have : w'.cell? ⟨b, o + i, none⟩ = w.cell? ⟨b, o + i, none⟩ := by simp only [World.cell?, hk]
  rw [this]; exact h i hi
theorem At.front {w : World} {b o : Nat} {bs cs : List UInt8} (h : At w b o (bs ++ cs)) : At w b o bs := by
  intro i hi
  have := h i (by simp; omega)
  rw [this, List.getElem_append_left hi]
theorem Own.at {w : World} {e : TypeId} {base g n cap : Nat} {bs : List UInt8} (h : Own w e base (.slice (some ⟨g, 0, none⟩) n cap) bs) : At w g 0 bs := by
  by_cases hb : bs = []
  · subst hb; intro i hi; simp at hi
  · obtain ⟨ao, c, e1, _, _, h3⟩ := h.sl
    obtain ⟨b, o, e2, _, ha⟩ := h3 hb
    simp only [Value.slice.injEq] at e1
    rw [← e1.1] at e2
    simp only [Option.some.injEq, Addr.mk.injEq, and_true] at e2
    obtain ⟨rfl, rfl⟩ := e2
    exact ha

/-- While list i is grown: l has p bytes of it. -/
structure Two (w0 : World) (base B0 Bi n i : Nat) (vb vg l : Value) (V G : Nat → Value) (len : Nat → Nat) (p : Nat) (w : World) : Prop where
  grown : OwnB w B0 vg i G
  book : OwnB w base vb n V
  reads : ∀ j, j < n → ∀ g c, V j = .slice (some ⟨g, 0, none⟩) (len j) c → At w g 0 (marks j (len j))
  done : ∀ j, j < i → Own w 5 base (G j) (marks j (len j + 16))
  src : ∀ j, j < i → (G j).ownBlock = (V j).ownBlock ∨ ∀ g, (G j).ownBlock = some g → B0 ≤ g
  disG : Dis i G
  rest : ∀ j, i < j → j < n → Own w 5 base (V j) (marks j (len j))
  up : Below base w0 w
  lown : Own w 5 base l (marks i p)
  lsrc : l.ownBlock = (V i).ownBlock ∨ ∀ g, l.ownBlock = some g → Bi ≤ g
  low : ∀ j, j < i → ∀ g, (G j).ownBlock = some g → g < Bi
  hBi : Bi ≤ w.heap.size
  hB0 : B0 ≤ Bi
  hbase : base ≤ B0

theorem Two.step {w0 w w' : World} {base B0 Bi n i p : Nat} {vb vg l l' : Value} {V G : Nat → Value} {len : Nat → Nat} (h : Two w0 base B0 Bi n i vb vg l V G len p w) (hd : Dis n V) (hi : i < n)
    (vlow : ∀ j, j < n → ∀ g, (V j).ownBlock = some g → g < B0) (hp : len i ≤ p)
    (hown : Own w' 5 base l' (marks i (p + 1)))
    (hpush : (Own w' 5 w.heap.size l' (marks i (p + 1)) ∧ Up w w') ∨ (∃ g cap, l = .slice (some ⟨g, 0, none⟩) p cap ∧ l' = .slice (some ⟨g, 0, none⟩) (p + 1) cap ∧ But g w w')) :
    Two w0 base B0 Bi n i vb vg l' V G len (p + 1) w' := by
  rcases hpush with ⟨ho, hu⟩ | ⟨g, cap, rfl, rfl, hb⟩
  · refine ⟨ownsRow_up h.grown hu, ownsRow_up h.book hu, fun j hj g c e => (h.reads j hj g c e).up hu, fun j hj => ownsRow_up (h.done j hj) hu, h.src, h.disG, fun j h1 h2 => ownsRow_up (h.rest j h1 h2) hu, Below.trans h.up (hu.mono (Nat.le_trans h.hbase (Nat.le_trans h.hB0 h.hBi))), hown, ?_, h.low, Nat.le_trans h.hBi hu.size, h.hB0, h.hbase⟩
    right
    intro g hg
    exact Nat.le_trans h.hBi (World.ownsRow.lt ho g hg).1
  · have hlb : Value.ownBlock (.slice (some ⟨g, 0, none⟩) p cap) = some g := rfl
    have hgw := World.ownsRow.lt h.lown g rfl
    -- g is no other list's block
    have hV : ∀ j, j < n → j ≠ i → (V j).ownBlock ≠ some g := by
      intro j hj hne e
      rcases h.lsrc with h1 | h1
      · rw [hlb] at h1
        exact hne (hd j i g hj hi e h1.symm)
      · have h2 := h1 g hlb
        have h3 := vlow j hj g e
        have := h.hB0
        omega
    have hG : ∀ j, j < i → (G j).ownBlock ≠ some g := by
      intro j hj e
      rcases h.lsrc with h1 | h1
      · rw [hlb] at h1
        rcases h.src j hj with h2 | h2
        · exact hV j (by omega) (by omega) (by rw [← h2, e])
        · have h3 := h2 g e
          have h4 := vlow i hi g h1.symm
          omega
      · have h2 := h1 g hlb
        have h3 := h.low j hj g e
        omega
    have hrow : ∀ {b0 m : Nat} {u : Value} {X : Nat → Value}, OwnB w b0 u m X → OwnB w' b0 u m X := by
      intro b0 m u X hx
      exact ownsRow_but hx hb (fun e => rows_apart hx h.lown e hlb)
    refine ⟨hrow h.grown, hrow h.book, ?_, fun j hj => ownsRow_but (h.done j hj) hb (hG j hj), h.src, h.disG, fun j h1 h2 => ownsRow_but (h.rest j h1 h2) hb (hV j h2 (by omega)), Below.trans h.up (But.below hb hgw.1 (Nat.le_trans h.hbase (Nat.le_trans h.hB0 h.hBi))), hown, h.lsrc, h.low, Nat.le_trans h.hBi hb.size, h.hB0, h.hbase⟩
    intro j hj g' c e
    by_cases hg : g' = g
    · subst hg
      have hji : j = i := by
        apply Classical.byContradiction
        intro hne
        exact hV j hj hne (by rw [e]; rfl)
      subst hji
      have ha := hown.at
      have e1 : marks j (p + 1) = marks j (len j) ++ (marks j (p + 1)).drop (len j) := by
        rw [← marks_take j (len j) (p + 1) (by omega), List.take_append_drop]
      rw [e1] at ha
      exact ha.front
    · exact (h.reads j hj g' c e).butX hb hg
end Go.Proofs.YtpjpjoefmnnpmaaDoor

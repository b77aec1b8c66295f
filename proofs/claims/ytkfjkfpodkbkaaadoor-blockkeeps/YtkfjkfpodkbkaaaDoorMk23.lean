/- Merged: BkApart. -/
import Derived.Test.YtkfjkfpodkbkaaaDoorMk21
import Derived.Test.YtkfjkfpodkbkaaaDoorMk22
set_option linter.unusedVariables false
set_option linter.unusedSimpArgs false
namespace Go.Proofs.YtkfjkfpodkbkaaaDoor
open Go Go.RowKit

abbrev rpl (n : Nat) (c : UInt8) : List UInt8 := List.replicate n c
def cj (j : Nat) : UInt8 := UInt8.ofNat (j + 1)
theorem cj_nat (j : Nat) (h : j < 250) : (cj j).toNat = j + 1 := by
  unfold cj
  rw [UInt8.toNat_ofNat']
  omega
/-- A slice that reads as m times the byte c, at its block's head. -/
def Rd (w : World) (v : Value) (m : Nat) (c : UInt8) : Prop := (v = .slice none 0 0 ∧ m = 0) ∨ ∃ g cap, v = .slice (some ⟨g, 0, none⟩) m cap ∧ g < w.heap.size ∧ ∀ s, s < m → w.cell? ⟨g, s, none⟩ = some (B c)
theorem OwnM.rd {w : World} {B0 : Nat} {v : Value} {m : Nat} {c : UInt8} (h : OwnM w B0 v (rpl m c)) : Rd w v m c := by
  rcases h.shp with ⟨rfl, e⟩ | ⟨g, cap, rfl, hb⟩
  · exact .inl ⟨rfl, by simpa using congrArg List.length e⟩
  · refine .inr ⟨g, cap, by simp, (h.lt g rfl).2, fun s hs => ?_⟩
    obtain ⟨k, _⟩ := h.byt s (by simpa using hs)
    rw [k]
    simp
theorem Rd.kept {w w' : World} {v : Value} {m : Nat} {c : UInt8} (h : Rd w v m c) (hz : w.heap.size ≤ w'.heap.size) (hk : ∀ g, v.ownBlock = some g → w'.heap[g]? = w.heap[g]?) : Rd w' v m c := by
  rcases h with h | ⟨g, cap, rfl, hg, h⟩
  · exact .inl h
  · refine .inr ⟨g, cap, rfl, by omega, fun s hs => ?_⟩
    rw [World.cell?_of_block (hk g rfl)]
    exact h s hs
theorem Rd.lt {w : World} {v : Value} {m : Nat} {c : UInt8} (h : Rd w v m c) {q : Nat} (hq : v.ownBlock = some q) : q < w.heap.size := by
  rcases h with ⟨rfl, _⟩ | ⟨g, cap, rfl, hg, _⟩
  · cases hq
  · cases hq; exact hg
theorem Rd.slice {w : World} {v : Value} {m : Nat} {c : UInt8} (h : Rd w v m c) : ∃ ao cap, v = .slice ao m cap ∧ ∀ s, s < m → ∃ g, ao = some ⟨g, 0, none⟩ ∧ w.cell? ⟨g, s, none⟩ = some (B c) := by
  rcases h with ⟨rfl, rfl⟩ | ⟨g, cap, rfl, hg, h⟩
  · exact ⟨none, 0, rfl, fun s hs => by omega⟩
  · exact ⟨_, cap, rfl, fun s hs => ⟨g, rfl, h s hs⟩⟩

/-- What stays known of the rows all the while. -/
structure ApS (B0 gr gw n : Nat) (vs : Nat → Value) : Prop where
  grw : gr < gw
  bgr : B0 ≤ gr
  blk : ∀ j, j < n → ∀ q, (vs j).ownBlock = some q → B0 ≤ q ∧ q < gw ∧ q ≠ gr
  dis : ∀ i j, i < n → j < n → i ≠ j → ∀ q, (vs i).ownBlock = some q → (vs j).ownBlock ≠ some q

structure Ap (w wr : World) (B0 gr gw n s : Nat) (vs : Nat → Value) (ln : Nat → Nat) (i k : Nat) (G : Nat → Value) : Prop where
  up : Below B0 w wr
  sz : s ≤ wr.heap.size
  gs : gw < s
  row : ∀ j, j < n → wr.cell? ⟨gr, j, none⟩ = some (vs j)
  lst : ∀ j, j < n → Rd wr (vs j) (ln j) (cj j)
  own : ∀ j, j < n → k ≤ j → OwnM wr B0 (vs j) (rpl (ln j) (cj j))
  gro : ∀ j, j < i → Rd wr (G j) (ln j + 16) (cj j) ∧ ∀ q, (G j).ownBlock = some q → (vs j).ownBlock = some q ∨ gw < q ∧ q < s
  gwr : ∃ cur, wr.heap[gw]? = some (.cells cur 27 (0, 0)) ∧ cur.size = n ∧ ∀ j, j < i → cur[j]? = some (G j)
theorem Ap.up' {w wr w' : World} {B0 gr gw n s : Nat} {vs : Nat → Value} {ln : Nat → Nat} {i k : Nat} {G : Nat → Value} (h : Ap w wr B0 gr gw n s vs ln i k G) (hs : ApS B0 gr gw n vs) (hB : B0 ≤ wr.heap.size) (u : Up wr w') : Ap w w' B0 gr gw n s vs ln i k G := by
  have hz := h.sz
  have hgs := h.gs
  have hgr := hs.grw
  refine ⟨h.up.trans (Below.mono u hB), Nat.le_trans h.sz u.size, h.gs, fun j hj => ?_, fun j hj => (h.lst j hj).kept u.size (fun g hg => u.block g ((h.lst j hj).lt hg)), fun j hj hk => (h.own j hj hk).up u, fun j hj => ⟨(h.gro j hj).1.kept u.size (fun g hg => u.block g ((h.gro j hj).1.lt hg)), (h.gro j hj).2⟩, ?_⟩
  · rw [World.cell?_of_block (u.block gr (by omega))]
    exact h.row j hj
  · obtain ⟨cur, h1, h2⟩ := h.gwr
    exact ⟨cur, by rw [u.block gw (by omega)]; exact h1, h2⟩
/-- One byte more at the row that grows. -/
theorem Ap.step {w wr W1 w' : World} {B0 gr gw n s : Nat} {vs : Nat → Value} {ln : Nat → Nat} {i : Nat} {G : Nat → Value} {gv gv' : Value} {m : Nat} (h : Ap w wr B0 gr gw n s vs ln i (i + 1) G) (hs : ApS B0 gr gw n vs) (hB : B0 ≤ wr.heap.size) (hi : i < n)
    (ho : OwnM wr B0 gv (rpl (ln i + m) (cj i))) (hg : ∀ q, gv.ownBlock = some q → (vs i).ownBlock = some q ∨ s ≤ q) (uW : Up wr W1)
    (ho' : OwnM w' B0 gv' (rpl (ln i + m) (cj i) ++ [cj i])) (ht : (Up W1 w' ∧ (∀ k, gv'.ownBlock = some k → W1.heap.size ≤ k)) ∨ ∃ g, gv.ownBlock = some g ∧ gv'.ownBlock = some g ∧ W1.grownBy w' (some g)) :
    Ap w w' B0 gr gw n s vs ln i (i + 1) G ∧ OwnM w' B0 gv' (rpl (ln i + (m + 1)) (cj i)) ∧ (∀ q, gv'.ownBlock = some q → (vs i).ownBlock = some q ∨ s ≤ q) := by
  have e : rpl (ln i + m) (cj i) ++ [cj i] = rpl (ln i + (m + 1)) (cj i) := by
    show List.replicate _ _ ++ [_] = List.replicate _ _
    rw [← Nat.add_assoc, List.replicate_succ']
  rw [e] at ho'
  have h1 := h.up' hs hB uW
  have hz1 : s ≤ W1.heap.size := h1.sz
  rcases ht with ⟨u, hn⟩ | ⟨g, e1, e2, hgr⟩
  · exact ⟨h1.up' hs (Nat.le_trans hB uW.size) u, ho', fun q hq => .inr (Nat.le_trans hz1 (hn q hq))⟩
  · refine ⟨?_, ho', fun q hq => ?_⟩
    · have hgB : B0 ≤ g := (ho.lt g e1).1
      have hgb := hg g e1
      have hblk := hs.blk
      have hgs := h.gs
      have hgrw := hs.grw
      have hkeep : ∀ q, q < W1.heap.size → q ≠ g → w'.heap[q]? = W1.heap[q]? := fun q hq hne => hgr.block q hq (fun e => hne (by cases e; rfl))
      have hne_gr : gr ≠ g := by
        rintro rfl
        rcases hgb with r | r
        · exact (hblk i hi _ r).2.2 rfl
        · omega
      have hne_gw : gw ≠ g := by
        rintro rfl
        rcases hgb with r | r
        · have := (hblk i hi _ r).2.1; omega
        · omega
      have hne_vs : ∀ j, j < n → j ≠ i → ∀ q, (vs j).ownBlock = some q → q ≠ g := fun j hj hji q hq e => by
        subst e
        rcases hgb with r | r
        · exact hs.dis j i hj hi hji q hq r
        · have := (hblk j hj q hq).2.1; omega
      refine ⟨h1.up.trans (But.below hgr hgB (Nat.le_trans hB uW.size)), Nat.le_trans h1.sz hgr.size, h.gs, fun j hj => ?_, fun j hj => ?_, fun j hj hk => ?_, fun j hj => ⟨?_, (h.gro j hj).2⟩, ?_⟩
      · rw [World.cell?_of_block (hkeep gr (by omega) hne_gr)]
        exact h1.row j hj
      · by_cases hji : j = i
        · subst hji
          by_cases hb : (vs j).ownBlock = some g
          · rcases h1.lst j hj with ⟨e3, e4⟩ | ⟨g3, cap3, e3, hl3, hc3⟩
            · rw [e3] at hb; cases hb
            · have eg : g3 = g := by rw [e3] at hb; cases hb; rfl
              subst eg
              refine .inr ⟨g3, cap3, e3, by have := hgr.size; omega, fun t ht => ?_⟩
              rcases ho'.shp with ⟨e5, _⟩ | ⟨g5, cap5, e5, _⟩
              · rw [e5] at e2; cases e2
              · have eg5 : g5 = g3 := by rw [e5] at e2; cases e2; rfl
                subst eg5
                rw [e5] at ho'
                obtain ⟨k, _⟩ := ho'.byt t (by simp; omega)
                rw [k]
                simp
          · exact (h1.lst j hj).kept hgr.size (fun q hq => hkeep q ((h1.lst j hj).lt hq) (by rintro rfl; exact hb hq))
        · exact (h1.lst j hj).kept hgr.size (fun q hq => hkeep q ((h1.lst j hj).lt hq) (hne_vs j hj hji q hq))
      · exact (h1.own j hj hk).kept (fun q hq => hkeep q ((h1.own j hj hk).lt q hq).2 (hne_vs j hj (by omega) q hq))
      · refine (h1.gro j hj).1.kept hgr.size (fun q hq => hkeep q ((h1.gro j hj).1.lt hq) ?_)
        rintro rfl
        rcases (h1.gro j hj).2 _ hq with r | r
        · exact hne_vs j (by omega) (by omega) _ r rfl
        · rcases hgb with r2 | r2
          · have := (hblk i hi _ r2).2.1; omega
          · omega
      · obtain ⟨cur, c1, c2⟩ := h1.gwr
        exact ⟨cur, by rw [hkeep gw (by omega) hne_gw]; exact c1, c2⟩
    · rw [e2] at hq
      cases hq
      exact hg g e1
/-- The grown row is kept. -/
theorem Ap.keep {w wr : World} {B0 gr gw n s : Nat} {vs : Nat → Value} {ln : Nat → Nat} {i : Nat} {G : Nat → Value} {gv : Value} (h : Ap w wr B0 gr gw n s vs ln i (i + 1) G) (hs : ApS B0 gr gw n vs) (hi : i < n) (hBw : B0 ≤ gw)
    (ho : OwnM wr B0 gv (rpl (ln i + 16) (cj i))) (hg : ∀ q, gv.ownBlock = some q → (vs i).ownBlock = some q ∨ s ≤ q) :
    Ap w (wr.setCell ⟨gw, i, none⟩ gv) B0 gr gw n wr.heap.size vs ln (i + 1) (i + 1) (fun j => if j = i then gv else G j) := by
  have hb := But.setCell wr gw i gv
  have hgs := h.gs
  have hgr := hs.grw
  have hz := h.sz
  have hkeep : ∀ q, q < wr.heap.size → q ≠ gw → (wr.setCell ⟨gw, i, none⟩ gv).heap[q]? = wr.heap[q]? := fun q hq hne => hb.block q hq (fun e => hne (by cases e; rfl))
  have hvs : ∀ j, j < n → ∀ q, (vs j).ownBlock = some q → q ≠ gw := fun j hj q hq e => by have := (hs.blk j hj q hq).2.1; omega
  refine ⟨h.up.trans (But.below hb hBw (by omega)), hb.size, by omega, fun j hj => ?_, fun j hj => (h.lst j hj).kept hb.size (fun q hq => hkeep q ((h.lst j hj).lt hq) (hvs j hj q hq)), fun j hj hk => (h.own j hj hk).kept (fun q hq => hkeep q ((h.own j hj hk).lt q hq).2 (hvs j hj q hq)), fun j hj => ?_, ?_⟩
  · rw [World.cell?_of_block (hkeep gr (by omega) (by omega))]
    exact h.row j hj
  · by_cases hji : j = i
    · subst hji
      simp only [if_true]
      refine ⟨ho.rd.kept hb.size (fun q hq => hkeep q (ho.lt q hq).2 ?_), fun q hq => ?_⟩
      · rcases hg q hq with r | r
        · exact hvs j hi q r
        · omega
      · rcases hg q hq with r | r
        · exact .inl r
        · exact .inr ⟨by omega, (ho.lt q hq).2⟩
    · simp only [if_neg hji]
      have hj' : j < i := by omega
      refine ⟨(h.gro j hj').1.kept hb.size (fun q hq => hkeep q ((h.gro j hj').1.lt hq) ?_), fun q hq => ?_⟩
      · rcases (h.gro j hj').2 q hq with r | r
        · exact hvs j (by omega) q r
        · omega
      · rcases (h.gro j hj').2 q hq with r | r
        · exact .inl r
        · exact .inr ⟨r.1, by omega⟩
  · obtain ⟨cur, c1, c2, c3⟩ := h.gwr
    refine ⟨cur.setIfInBounds i gv, heap_setCellF wr gw _ i (0, 0) cur gv c1, by simpa using c2, fun j hj => ?_⟩
    rw [Array.getElem?_setIfInBounds]
    by_cases hji : i = j
    · subst hji
      simp [c2, hi]
    · rw [if_neg hji, if_neg (fun e => hji e.symm)]
      exact c3 j (by omega)
end Go.Proofs.YtkfjkfpodkbkaaaDoor

/- segment: rows of records with spare room that a law makes, and records that it writes over. -/
import Derived.Test.YtkfjkfpodkbkaaaGreatDoorMg42
import Derived.Test.YtkfjkfpodkbkaaaGreatDoorBkMk
set_option linter.unusedVariables false
set_option linter.unusedSimpArgs false
namespace Go.Proofs.YtkfjkfpodkbkaaaGreatDoor
open Go Go.RowKit

def tail9 : List UInt8 := [208, 209, 210, 211, 212, 213, 214, 215, 216]
theorem tail9_at : ∀ j (h : j < 9), (tail9[j]'h).toNat = 208 + j := by decide
theorem tail9_take (j : Nat) (h : j < 9) : tail9.take (j + 1) = tail9.take j ++ [tail9[j]'h] := List.take_succ_eq_append_getElem h
abbrev gsl (f : Nat × Nat) (r : Rec) : Value := .slice (some ⟨f.1, 0, none⟩) r.length f.2
abbrev gfl (f : Nat × Nat) (r : Rec) : Value := .slice (some ⟨f.1, 0, none⟩) (r.length + 9) f.2

/-- Records with nine bytes more behind each, from the k-th on. -/
structure GivR (wr : World) (B : Nat) (vg : Value) (L : List Rec) (k : Nat) (fs : List (Nat × Nat)) : Prop where
  len : fs.length = L.length
  row : OwnV wr B vg (List.zipWith gsl fs L)
  each : ∀ i (h1 : i < fs.length) (h2 : i < L.length), k ≤ i → Own wr 5 B (gfl fs[i] L[i]) (L[i] ++ tail9)
  nd : (fs.map Prod.fst).Nodup
  ge : ∀ f ∈ fs, B ≤ f.1 ∧ f.1 < wr.heap.size ∧ vg.ownBlock ≠ some f.1
theorem GivR.nil (w : World) (B : Nat) : GivR w B (.slice none 0 0) [] 0 [] := ⟨rfl, OwnV.nil _ _, fun i h1 _ _ => by simp at h1, by simp, fun f hf => by cases hf⟩
theorem own_up {w w' : World} {B : Nat} {v : Value} {bs : List UInt8} (h : Own w 5 B v bs) (u : Up w w') : Own w' 5 B v bs := ownsRow_up h u
theorem GivR.snoc {wr w2 w3 w' : World} {B g cap : Nat} {vg vg' : Value} {L : List Rec} {r : Rec} {fs : List (Nat × Nat)} (h : GivR wr B vg L 0 fs) (hB : B ≤ wr.heap.size) (u2 : Up wr w2) (ho : Own w2 5 wr.heap.size (gfl (g, cap) r) (r ++ tail9)) (u3 : Up w2 w3)
    (hr : OwnV w' B vg' (List.zipWith gsl fs L ++ [gsl (g, cap) r])) (hg : w3.grownBy w' vg.ownBlock) (hm : ∀ k, vg'.ownBlock = some k → vg.ownBlock = some k ∨ w3.heap.size ≤ k) : GivR w' B vg' (L ++ [r]) 0 (fs ++ [(g, cap)]) := by
  have hgg := World.ownsRow.lt ho g rfl
  have hvl : ∀ k, vg.ownBlock = some k → k < wr.heap.size := fun k hk => (World.ownsRow.lt h.row k hk).2
  have hl := h.len
  refine ⟨by simp [hl], ?_, fun i h1 h2 _ => ?_, ?_, fun f hf => ?_⟩
  · rw [List.zipWith_append hl]
    exact hr
  · by_cases hi : i < fs.length
    · rw [List.getElem_append_left hi, List.getElem_append_left (by rw [← hl]; exact hi)]
      have o := own_up (own_up (h.each i hi (by rw [← hl]; exact hi) (Nat.zero_le _)) u2) u3
      exact ownsRow_grown o hg (fun g' hg' e => (h.ge _ (List.getElem_mem hi)).2.2 (by rw [e]; exact hg'.symm ▸ rfl))
    · have hi1 : i = fs.length := by simp at h1; omega
      subst hi1
      rw [List.getElem_append_right (Nat.le_refl _)]
      simp only [Nat.sub_self, List.getElem_cons_zero, hl]
      rw [List.getElem_append_right (Nat.le_refl _)]
      simp only [Nat.sub_self, List.getElem_cons_zero]
      have o := own_up ho u3
      exact ownsRow_low (ownsRow_grown o hg (fun g' hg' e => by
        have e9 : g = g' := by cases hg'; rfl
        subst e9
        have := hvl g e
        omega)) hB
  · rw [List.map_append, List.nodup_append]
    refine ⟨h.nd, by simp, fun x hx y hy e => ?_⟩
    simp at hy
    subst hy
    subst e
    obtain ⟨f, hf, e⟩ := List.mem_map.1 hx
    have := (h.ge f hf).2.1
    omega
  · have hs : wr.heap.size ≤ w3.heap.size := Nat.le_trans u2.size u3.size
    rcases List.mem_append.1 hf with q | q
    · obtain ⟨q1, q2, q3⟩ := h.ge f q
      refine ⟨q1, by have := hg.size; omega, fun e => ?_⟩
      rcases hm _ e with r1 | r1
      · exact q3 r1
      · omega
    · simp at q
      subst q
      refine ⟨by show B ≤ g; omega, by have := hg.size; have := u3.size; show g < _; omega, fun e => ?_⟩
      rcases hm _ e with r1 | r1
      · have := hvl _ r1; omega
      · have := u3.size; have := hgg.2; omega
theorem own_head {w : World} {B g cap n : Nat} {r t : Rec} (h : Own w 5 B (.slice (some ⟨g, 0, none⟩) n cap) (r ++ t)) : Sl 0 w (.slice (some ⟨g, 0, none⟩) r.length cap) r := by
  have ha := h.at
  obtain ⟨hl, ⟨e, _⟩ | ⟨g', cap', cur, e, hb, hg, hnc, hcm, hcs, ht⟩⟩ := h
  · cases e
  · simp only [Value.slice.injEq, Option.some.injEq, Addr.mk.injEq] at e
    obtain ⟨⟨rfl, _⟩, rfl, rfl⟩ := e
    refine ⟨_, _, rfl, by simp at hnc; omega, (by intro e; cases e), fun _ => ⟨g, 0, rfl, Nat.zero_le _, fun i hi => ?_⟩⟩
    have := ha i (by rw [List.length_append]; omega)
    rwa [List.getElem_append_left hi] at this
theorem GivR.at {wr : World} {B : Nat} {vg : Value} {L : List Rec} {k : Nat} {fs : List (Nat × Nat)} (h : GivR wr B vg L k fs) (i : Nat) (hi : i < L.length) : ∃ g cap, vg = .slice (some ⟨g, 0, none⟩) L.length cap ∧ wr.cell? ⟨g, i, none⟩ = some (gsl (fs[i]'(by rw [h.len]; exact hi)) L[i]) := by
  have hz : (List.zipWith gsl fs L).length = L.length := by simp [h.len]
  obtain ⟨g, cap, e, hc⟩ := h.row.cell i (by rw [hz]; exact hi)
  rw [hz] at e
  exact ⟨g, cap, e, by rw [hc]; simp⟩
theorem GivR.rw {wr : World} {B : Nat} {vg : Value} {L : List Rec} {fs : List (Nat × Nat)} (h : GivR wr B vg L 0 fs) : Rw wr vg L := by
  have hz : (List.zipWith gsl fs L).length = L.length := by simp [h.len]
  rcases h.row.parts with ⟨rfl, e⟩ | ⟨g, cap, cur, rfl, hb, hlt, hg, hnc, hcm, hcs, ht⟩
  · rw [e] at hz
    have : L = [] := List.eq_nil_of_length_eq_zero hz.symm
    subst this
    exact ⟨none, 0, rfl, Nat.zero_le _, fun h => absurd rfl h⟩
  · refine ⟨some ⟨g, 0, none⟩, cap, by rw [hz], by rw [← hz]; exact hnc, fun _ => ⟨g, 0, rfl, fun i hi => ⟨_, ?_, own_head (h.each i (by rw [h.len]; exact hi) hi (Nat.zero_le _))⟩⟩⟩
    obtain ⟨g', cap', e, hc⟩ := h.at i hi
    simp only [Value.slice.injEq, Option.some.injEq, Addr.mk.injEq] at e
    obtain ⟨⟨rfl, _⟩, _⟩ := e
    rw [Nat.zero_add]; exact hc
theorem GivR.kept {wr w' : World} {B : Nat} {vg : Value} {L : List Rec} {k : Nat} {fs : List (Nat × Nat)} {S : List Nat} (h : GivR wr B vg L k fs) (t : Touch wr w' S) (hS : ∀ f ∈ fs, f.1 ∉ S) (hv : ∀ q, vg.ownBlock = some q → q ∉ S) : GivR w' B vg L k fs :=
  ⟨h.len, Touch.row h.row t hv, fun i h1 h2 hk => Touch.row (h.each i h1 h2 hk) t (fun q hq => by cases hq; exact hS _ (List.getElem_mem h1)), h.nd, fun f hf => by obtain ⟨q1, q2, q3⟩ := h.ge f hf; exact ⟨q1, by have := t.size; omega, q3⟩⟩
/-- The k-th is written over. -/
theorem GivR.fill {wr w' : World} {B : Nat} {vg : Value} {L : List Rec} {k : Nat} {fs : List (Nat × Nat)} (h : GivR wr B vg L k fs) (hk : k < fs.length) (t : Touch wr w' [fs[k].1]) : GivR w' B vg L (k + 1) fs := by
  refine ⟨h.len, Touch.row h.row t (fun q hq hm => ?_), fun i h1 h2 hi => Touch.row (h.each i h1 h2 (by omega)) t (fun q hq hm => ?_), h.nd, fun f hf => by obtain ⟨q1, q2, q3⟩ := h.ge f hf; exact ⟨q1, by have := t.size; omega, q3⟩⟩
  · simp at hm
    subst hm
    exact (h.ge _ (List.getElem_mem hk)).2.2 hq
  · simp at hm
    cases hq
    have h2 := (List.nodup_iff_pairwise_ne.1 h.nd)
    rw [List.pairwise_iff_getElem] at h2
    have h3 := h2 k i (by simpa using hk) (by simpa using h1) (by omega)
    simp only [List.getElem_map] at h3
    exact h3 hm.symm

/-- A block's bytes stay where only one other block is touched. -/
theorem recs_setAt {w w' : World} {B g n cap : Nat} {L : List (List UInt8)} {vs : List Value} {u : Value} {bs : List UInt8} (h : Recs w B (.slice (some ⟨g, 0, none⟩) n cap) L vs) (i : Nat) (hi : i < vs.length) (hgr : w.grownBy w' (vs[i].ownBlock)) (ho : OwnM w' B u bs) (hmv : ∀ k, u.ownBlock = some k → vs[i].ownBlock = some k ∨ w.heap.size ≤ k) :
    Recs (w'.setCell ⟨g, i, none⟩ u) B (.slice (some ⟨g, 0, none⟩) n cap) (L.set i bs) (vs.set i u) := by
  have hL : i < L.length := by rw [← h.len]; exact hi
  have hgl := (World.ownsRow.lt h.row g rfl).2
  have hng : ∀ j (hj : j < vs.length), vs[j].ownBlock ≠ some g := fun j hj e => rows_apartM h.row (h.each j hj (by rw [← h.len]; exact hj)) rfl e
  have hnd := (ownblocks_iff vs).1 h.nd
  have hrow : OwnV w' B (.slice (some ⟨g, 0, none⟩) n cap) vs := ownsRow_grown h.row hgr (fun q hq e => by cases hq; exact hng i hi e)
  have hug : u.ownBlock ≠ some g := fun e => rows_apartM hrow ho rfl e
  have hb := But.setCell w' g i u
  refine ⟨hrow.set i hi u, by simp [h.len], fun j h1 h2 => ?_, ?_⟩
  · by_cases hj : j = i
    · subst hj
      simp only [List.getElem_set_self]
      exact ho.kept (fun q hq => by
        have hql := (ho.lt q hq).2
        exact hb.block q hql (fun e => by cases e; exact hug hq))
    · have h1' : j < vs.length := by simpa using h1
      have h2' : j < L.length := by simpa using h2
      rw [List.getElem_set_ne (Ne.symm hj), List.getElem_set_ne (Ne.symm hj)]
      have o := h.each j h1' h2'
      have o2 : OwnM w' B vs[j] L[j] := o.grown hgr (fun q hq e => by
        rcases Nat.lt_or_gt_of_ne hj with z | z
        · exact hnd j i h1' hi q z hq e
        · exact hnd i j hi h1' q z e hq)
      exact o2.kept (fun q hq => hb.block q (o2.lt q hq).2 (fun e => by cases e; exact hng j h1' hq))
  · rw [ownblocks_iff]
    intro a b ha hb' g2 hab e1 e2
    have ha' : a < vs.length := by simpa using ha
    have hb2 : b < vs.length := by simpa using hb'
    have hlt : ∀ c (hc : c < vs.length), vs[c].ownBlock = some g2 → g2 < w.heap.size := fun c hc e => ((h.each c hc (by rw [← h.len]; exact hc)).lt g2 e).2
    by_cases hai : a = i
    · subst hai
      rw [List.getElem_set_self] at e1
      rw [List.getElem_set_ne (by omega)] at e2
      rcases hmv g2 e1 with r | r
      · exact hnd a b ha' hb2 g2 hab r e2
      · have := hlt b hb2 e2; omega
    · by_cases hbi : b = i
      · subst hbi
        rw [List.getElem_set_self] at e2
        rw [List.getElem_set_ne (by omega)] at e1
        rcases hmv g2 e2 with r | r
        · exact hnd a b ha' hb2 g2 hab e1 r
        · have := hlt a ha' e1; omega
      · rw [List.getElem_set_ne (by omega)] at e1 e2
        exact hnd a b ha' hb2 g2 hab e1 e2
/-- Two blocks of heaps between two sizes are the same. -/
def Mid (a b : Nat) (w w' : World) : Prop := ∀ k, a ≤ k → k < b → w'.heap[k]? = w.heap[k]?
theorem recs_mid {w w' : World} {a B : Nat} {v : Value} {L : List (List UInt8)} {vs : List Value} (h : Recs w B v L vs) (ha : a ≤ B) (m : Mid a w.heap.size w w') : Recs w' B v L vs :=
  ⟨ownsRow_kept h.row (fun g hg => by have := World.ownsRow.lt h.row g hg; exact m g (by omega) this.2), h.len, fun i h1 h2 => (h.each i h1 h2).kept (fun g hg => by have := (h.each i h1 h2).lt g hg; exact m g (by omega) this.2), h.nd⟩
theorem Mid.refl (a b : Nat) (w : World) : Mid a b w w := fun _ _ _ => rfl
theorem Mid.grown {a b : Nat} {w w1 w2 : World} {r : Option Nat} (h : Mid a b w w1) (g : w1.grownBy w2 r) (hb : b ≤ w1.heap.size) (hr : ∀ k, r = some k → k < a ∨ b ≤ k) : Mid a b w w2 := fun k h1 h2 => by
  rw [g.block k (by omega) (fun e => by rcases hr k e.symm with z | z <;> omega)]
  exact h k h1 h2
end Go.Proofs.YtkfjkfpodkbkaaaGreatDoor

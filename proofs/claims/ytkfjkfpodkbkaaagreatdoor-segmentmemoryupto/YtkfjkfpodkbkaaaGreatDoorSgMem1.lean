/- segment: rows that a law marks in place and lengthens, one after another. -/
import Derived.Test.YtkfjkfpodkbkaaaGreatDoorSgMem0
set_option linter.unusedVariables false
set_option linter.unusedSimpArgs false
namespace Go.Proofs.YtkfjkfpodkbkaaaGreatDoor
open Go Go.RowKit

theorem OwnM.shape {w : World} {base : Nat} {v : Value} {bs : List UInt8} (h : OwnM w base v bs) : ∃ ao cap, v = .slice ao bs.length cap := by
  rcases h with ⟨rfl, rfl⟩ | ⟨g, cap, cur, f, rfl, _⟩
  · exact ⟨none, 0, rfl⟩
  · exact ⟨_, cap, rfl⟩
theorem OwnM.byte {w : World} {base n cap : Nat} {ao : Option Addr} {bs : List UInt8} (h : OwnM w base (.slice ao n cap) bs) (t : Nat) (ht : t < bs.length) : ∃ g, ao = some ⟨g, 0, none⟩ ∧ base ≤ g ∧ w.cell? ⟨g, t, none⟩ = some (B (bs[t]'ht)) ∧ w.frozen? ⟨g, t, none⟩ = false := by
  have h0 := h
  rcases h with ⟨e, rfl⟩ | ⟨g, cap', cur, f, e, hb, hg, hnc, hcm, hcs, hx, hf⟩
  · simp at ht
  · simp only [Value.slice.injEq] at e
    obtain ⟨rfl, rfl, rfl⟩ := e
    have ha := h0.at t ht
    rw [Nat.zero_add] at ha
    exact ⟨g, rfl, hb, ha, h0.not_frozen t (by omega)⟩
theorem own_byte {w : World} {base g n cap : Nat} {bs : List UInt8} (h : Own w 5 base (.slice (some ⟨g, 0, none⟩) n cap) bs) (t : Nat) (ht : t < bs.length) : w.cell? ⟨g, t, none⟩ = some (B (bs[t]'ht)) := by
  have ha := h.at t ht
  rwa [Nat.zero_add] at ha
theorem ownV_not_frozen {w : World} {base g n cap i : Nat} {vs : List Value} (h : OwnV w base (.slice (some ⟨g, 0, none⟩) n cap) vs) : w.frozen? ⟨g, i, none⟩ = false := by
  rcases h.parts with ⟨e, _⟩ | ⟨g', cap', cur, e, hb, hlt, hg, _⟩
  · cases e
  · cases e
    simp [World.frozen?, hg]
theorem recs_store {w : World} {B0 gl n cap : Nat} {v : Value} {L : List Rec} {vs : List Value} (h : Recs w B0 v L vs) (i : Nat) (hi : i < vs.length) (hL : i < L.length) (hv : vs[i] = .slice (some ⟨gl, 0, none⟩) n cap) (t : Nat) (ht : t < (L[i]).length) (c : UInt8) :
    Recs (w.setCell ⟨gl, t, none⟩ (B c)) B0 v (L.set i ((L[i]).set t c)) vs := by
  have hb := But.setCell w gl t (B c)
  have hnd := (ownblocks_iff vs).1 h.nd
  have oi := h.each i hi hL
  have eg : vs[i].ownBlock = some gl := by rw [hv]; rfl
  refine ⟨ownsRow_but h.row hb (fun e => rows_apartM h.row oi e eg), by simp [h.len], fun j h1 h2 => ?_, h.nd⟩
  by_cases hj : j = i
  · subst hj
    simp only [List.getElem_set_self]
    rw [hv] at oi ⊢
    exact oi.set t ht c
  · have h2' : j < L.length := by simpa using h2
    rw [List.getElem_set_ne (Ne.symm hj)]
    refine (h.each j h1 h2').grown hb (fun q hq e => ?_)
    cases e
    rcases Nat.lt_or_gt_of_ne hj with z | z
    · exact hnd j i h1 hi _ z hq eg
    · exact hnd i j hi h1 _ z eg hq

/-- Rows before the i-th hold their own number, and so the first t of the i-th. -/
def Dn (L : List Rec) (i t : Nat) : Prop := ∀ j r, L[j]? = some r → ∀ s c, r[s]? = some c → (j < i ∨ j = i ∧ s < t) → c = UInt8.ofNat j
theorem Dn.nil (L : List Rec) : Dn L 0 0 := fun j r _ s c _ h => by omega
theorem Dn.set {L : List Rec} {i t : Nat} (h : Dn L i t) (hi : i < L.length) : Dn (L.set i ((L[i]).set t (UInt8.ofNat i))) i (t + 1) := by
  intro j r hj s c hs hd
  rw [List.getElem?_set] at hj
  by_cases e : i = j
  · subst e
    rw [if_pos rfl, if_pos hi] at hj
    cases hj
    rw [List.getElem?_set] at hs
    by_cases e2 : t = s
    · subst e2
      rw [if_pos rfl] at hs
      split at hs
      · cases hs; rfl
      · cases hs
    · rw [if_neg e2] at hs
      exact h i _ (List.getElem?_eq_getElem hi) s c hs (.inr ⟨rfl, by omega⟩)
  · rw [if_neg e] at hj
    exact h j r hj s c hs (by omega)
theorem Dn.grow {L : List Rec} {i : Nat} (hi : i < L.length) (h : Dn L i (L[i]).length) : Dn (L.set i (L[i] ++ [UInt8.ofNat i, UInt8.ofNat i, UInt8.ofNat i])) (i + 1) 0 := by
  intro j r hj s c hs hd
  rw [List.getElem?_set] at hj
  by_cases e : i = j
  · subst e
    rw [if_pos rfl, if_pos hi] at hj
    cases hj
    by_cases e2 : s < (L[i]).length
    · rw [List.getElem?_append_left e2] at hs
      exact h i _ (List.getElem?_eq_getElem hi) s c hs (.inr ⟨rfl, e2⟩)
    · rw [List.getElem?_append_right (by omega)] at hs
      have hm := List.mem_of_getElem? hs
      simpa using hm
  · rw [if_neg e] at hj
    exact h j r hj s c hs (by omega)
theorem Dn.next {L : List Rec} {i : Nat} (hi : i < L.length) (h : Dn L i (L[i]).length) : Dn L (i + 1) 0 := by
  intro j r hj s c hs hd
  by_cases e : i = j
  · subst e
    have e3 := List.getElem?_eq_getElem hi
    rw [e3] at hj
    cases hj
    exact h i _ e3 s c hs (.inr ⟨rfl, (List.getElem?_eq_some_iff.1 hs).1⟩)
  · exact h j r hj s c hs (by omega)
def Sm (L : List Rec) (i : Nat) : Prop := ∀ j r, L[j]? = some r → r.length ≤ 4194304 + (if j < i then 3 else 0)
theorem Sm.le {L : List Rec} {i : Nat} (h : Sm L i) {j : Nat} (hj : j < L.length) : (L[j]).length ≤ 4194307 := by
  have := h j _ (List.getElem?_eq_getElem hj)
  split at this <;> omega
theorem Sm.set {L : List Rec} {i t : Nat} (h : Sm L i) (hi : i < L.length) (c : UInt8) : Sm (L.set i ((L[i]).set t c)) i := by
  intro j r hj
  rw [List.getElem?_set] at hj
  by_cases e : i = j
  · subst e
    rw [if_pos rfl, if_pos hi] at hj
    cases hj
    rw [List.length_set]
    exact h i _ (List.getElem?_eq_getElem hi)
  · rw [if_neg e] at hj
    exact h j r hj
theorem Sm.grow {L : List Rec} {i : Nat} (h : Sm L i) (hi : i < L.length) (a b c : UInt8) : Sm (L.set i (L[i] ++ [a, b, c])) (i + 1) := by
  intro j r hj
  rw [List.getElem?_set] at hj
  by_cases e : i = j
  · subst e
    rw [if_pos rfl, if_pos hi] at hj
    cases hj
    have := h i _ (List.getElem?_eq_getElem hi)
    rw [if_neg (by omega)] at this
    rw [if_pos (by omega), List.length_append]
    simp only [List.length_cons, List.length_nil]
    omega
  · rw [if_neg e] at hj
    have := h j r hj
    split at this <;> split <;> omega

structure MkR (w w0 wr : World) (B0 sa : Nat) (v : Value) (M i t : Nat) (L : List Rec) (vs : List Value) : Prop where
  recs : Recs wr B0 v L vs
  len : L.length = M
  done : Dn L i t
  sm : Sm L i
  low : ∀ u ∈ vs, ∀ k, u.ownBlock = some k → k < sa ∨ w0.heap.size ≤ k
  row : ∀ k, v.ownBlock = some k → k < sa
  mid : Mid sa w0.heap.size w0 wr
  size : w0.heap.size ≤ wr.heap.size
  base : w.heap.size ≤ B0
  up : Up w wr
theorem MkR.start {w wa w0 : World} {B0 : Nat} {v : Value} {L : List Rec} {vs : List Value} (h : Recs wa B0 v L vs) (u : Up wa w0) (hb : w.heap.size ≤ B0) (hu : Up w w0) (hs : ∀ r ∈ L, r.length ≤ 4194304) : MkR w w0 w0 B0 wa.heap.size v L.length 0 0 L vs := by
  refine ⟨h.up u, rfl, Dn.nil _, fun j r hj => ?_, fun x hx k hk => .inl ?_, fun k hk => (World.ownsRow.lt h.row k hk).2, Mid.refl _ _ _, Nat.le_refl _, hb, hu⟩
  · have := hs r (List.mem_of_getElem? hj)
    omega
  · obtain ⟨i, hi, rfl⟩ := List.getElem_of_mem hx
    exact ((h.each i hi (by rw [← h.len]; exact hi)).lt k hk).2
theorem MkR.cell {w w0 wr : World} {B0 sa : Nat} {v : Value} {M i t : Nat} {L : List Rec} {vs : List Value} (h : MkR w w0 wr B0 sa v M i t L vs) (j : Nat) (hj : j < M) : ∃ (hL : j < L.length) (hv : j < vs.length), ∃ g cap ao c, v = .slice (some ⟨g, 0, none⟩) M cap ∧ vs[j] = .slice ao (L[j]).length c ∧ wr.cell? ⟨g, j, none⟩ = some (.slice ao (L[j]).length c) ∧ OwnM wr B0 (.slice ao (L[j]).length c) L[j] := by
  have hL : j < L.length := by rw [h.len]; exact hj
  have hv : j < vs.length := by rw [h.recs.len]; exact hL
  obtain ⟨g, cap, e, hc⟩ := h.recs.row.cell j hv
  have o := h.recs.each j hv hL
  obtain ⟨ao, c, ev⟩ := o.shape
  refine ⟨hL, hv, g, cap, ao, c, by rw [e, h.recs.len, h.len], ev, by rw [hc, ev], by rw [← ev]; exact o⟩
theorem MkR.store {w w0 wr : World} {B0 sa : Nat} {v : Value} {M i t : Nat} {L : List Rec} {vs : List Value} (h : MkR w w0 wr B0 sa v M i t L vs) (hL : i < L.length) (hv : i < vs.length) {gl n cap : Nat} (e : vs[i] = .slice (some ⟨gl, 0, none⟩) n cap) (ht : t < (L[i]).length) :
    MkR w w0 (wr.setCell ⟨gl, t, none⟩ (B (UInt8.ofNat i))) B0 sa v M i (t + 1) (L.set i ((L[i]).set t (UInt8.ofNat i))) vs := by
  have eg : vs[i].ownBlock = some gl := by rw [e]; rfl
  have hlow := h.low _ (List.getElem_mem hv) gl eg
  have hge := ((h.recs.each i hv hL).lt gl eg).1
  have hb := But.setCell wr gl t (B (UInt8.ofNat i))
  refine ⟨recs_store h.recs i hv hL e t ht _, by rw [List.length_set]; exact h.len, h.done.set hL, h.sm.set hL _, h.low, h.row, h.mid.grown hb h.size (fun k hk => by cases hk; exact hlow), Nat.le_trans h.size hb.size, h.base, ?_⟩
  exact hb.up h.up (Nat.le_trans h.base hge)
theorem MkR.grow {w w0 wr W1 w' : World} {B0 sa g n cap : Nat} {M i t : Nat} {L : List Rec} {vs : List Value} {u : Value} (h : MkR w w0 wr B0 sa (.slice (some ⟨g, 0, none⟩) n cap) M i t L vs) (hL : i < L.length) (hv : i < vs.length) (et : t = (L[i]).length) (uW : Up wr W1)
    (ho : OwnM w' B0 u (L[i] ++ [UInt8.ofNat i, UInt8.ofNat i, UInt8.ofNat i])) (hgr : W1.grownBy w' vs[i].ownBlock) (hmv : ∀ k, u.ownBlock = some k → vs[i].ownBlock = some k ∨ W1.heap.size ≤ k) :
    MkR w w0 (w'.setCell ⟨g, i, none⟩ u) B0 sa (.slice (some ⟨g, 0, none⟩) n cap) M (i + 1) 0 (L.set i (L[i] ++ [UInt8.ofNat i, UInt8.ofNat i, UInt8.ofNat i])) (vs.set i u) := by
  have hg := World.ownsRow.lt h.recs.row g rfl
  have hb := But.setCell w' g i u
  have m1 : Mid sa w0.heap.size w0 W1 := fun k h1 h2 => by rw [uW.block k (by have := h.size; omega)]; exact h.mid k h1 h2
  have s1 : w0.heap.size ≤ W1.heap.size := Nat.le_trans h.size uW.size
  have m2 : Mid sa w0.heap.size w0 w' := m1.grown hgr s1 (fun k hk => h.low _ (List.getElem_mem hv) k hk)
  have s2 : w0.heap.size ≤ w'.heap.size := Nat.le_trans s1 hgr.size
  have hge : ∀ k, vs[i].ownBlock = some k → w.heap.size ≤ k := fun k hk => Nat.le_trans h.base ((h.recs.each i hv hL).lt k hk).1
  have u2 : Up w w' := grown_up (h.up.trans uW) hgr hge
  subst et
  refine ⟨recs_setAt (h.recs.up uW) i hv hgr ho hmv, by rw [List.length_set]; exact h.len, h.done.grow hL, h.sm.grow hL _ _ _, fun x hx k hk => ?_, h.row, m2.grown hb s2 (fun k hk => by cases hk; exact .inl (h.row g rfl)), Nat.le_trans s2 hb.size, h.base, hb.up u2 (Nat.le_trans h.base hg.1)⟩
  obtain ⟨j, hj, rfl⟩ := List.getElem_of_mem hx
  rw [List.getElem_set] at hk
  split at hk
  · rcases hmv k hk with r | r
    · exact h.low _ (List.getElem_mem hv) k r
    · exact .inr (by omega)
  · exact h.low _ (List.getElem_mem (by simpa using hj)) k hk
theorem MkR.rowcell {w w0 wr W1 w' : World} {B0 sa g n cap : Nat} {M i t : Nat} {L : List Rec} {vs : List Value} (h : MkR w w0 wr B0 sa (.slice (some ⟨g, 0, none⟩) n cap) M i t L vs) (hL : i < L.length) (hv : i < vs.length) (uW : Up wr W1) (hgr : W1.grownBy w' vs[i].ownBlock) : w'.cell? ⟨g, i, none⟩ = some vs[i] ∧ w'.frozen? ⟨g, i, none⟩ = false := by
  have hrow : OwnV w' B0 (.slice (some ⟨g, 0, none⟩) n cap) vs := ownsRow_grown (ownsRow_up h.recs.row uW) hgr (fun q hq e => rows_apartM h.recs.row (h.recs.each i hv hL) hq e)
  obtain ⟨g', cap', e, hc⟩ := hrow.cell i hv
  have e2 : g = g' := by
    simp only [Value.slice.injEq, Option.some.injEq, Addr.mk.injEq] at e
    exact e.1.1
  subst e2
  exact ⟨hc, ownV_not_frozen hrow⟩
theorem MkR.same {w w0 wr : World} {B0 sa : Nat} {v : Value} {M i t : Nat} {L : List Rec} {vs : List Value} (h : MkR w w0 wr B0 sa v M i t L vs) {B2 : Nat} {v2 : Value} {L2 : List Rec} {vs2 : List Value} (k : Recs w0 B2 v2 L2 vs2) (hb : sa ≤ B2) : Recs wr B2 v2 L2 vs2 := recs_mid k hb h.mid
end Go.Proofs.YtkfjkfpodkbkaaaGreatDoor

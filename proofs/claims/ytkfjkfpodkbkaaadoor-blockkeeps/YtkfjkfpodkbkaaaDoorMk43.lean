/- Merged: BkKp0. -/
import Derived.Test.YtkfjkfpodkbkaaaDoorMk24
import Derived.Test.YtkfjkfpodkbkaaaDoorMk42
set_option linter.unusedVariables false
set_option linter.unusedSimpArgs false
namespace Go.Proofs.YtkfjkfpodkbkaaaDoor
open Go Go.RowKit

def t3 : List UInt8 := [167, 168, 169]
theorem eNil_or (ad : Nat → Addr) (first : Nat) (L : List Rec) (hN : L.length ≤ 1048576) (hT : totN L ≤ 16777216) :
    ∃ P S n, pkR first L = P ∧ P.length ≤ 536870912 ∧ scanB (badOf []) (P.length / 512) P 0 first = (S, n) ∧ n ≤ 1048576 ∧ S.length ≤ 1048576 ∧ (∀ r ∈ S, r.length ≤ 1000000) ∧ ((pkE ad first L = .nilIface ∧ S = L) ∨ ∃ a, pkE ad first L = E a) := by
  by_cases h0 : L = []
  · subst h0
    refine ⟨[], [], 0, by unfold pkR; split <;> rfl, by simp, rfl, by omega, by simp, by simp, .inl ⟨by rw [pkE, if_pos rfl], rfl⟩⟩
  · by_cases hok : NumOk first L.length ∧ anyLong L = false
    · obtain ⟨gs, hp, hfit, hflat, _, _, hgl⟩ := pk_parts hok.1 hok.2
      have hpl := pkB_length first gs hfit
      have hst := scan_stop (badOf []) hfit (fun j _ => by rw [badOf_nil]) [] (.inr (.inl (by simp))) _ rfl
      rw [List.append_nil, hflat] at hst
      refine ⟨pkB first gs, L, gs.length, by rw [pkR, if_pos hok, hp], by omega, hst, by omega, hN, fun r hr => ?_, .inl ⟨by rw [pkE, if_neg h0, if_pos hok.1, if_neg (by rw [hok.2]; simp)], rfl⟩⟩
      have := anyLong_false hok.2 r hr
      omega
    · refine ⟨[], [], 0, by rw [pkR, if_neg hok], by simp, rfl, by omega, by simp, by simp, .inr ?_⟩
      unfold pkE
      rw [if_neg h0]
      by_cases h1 : NumOk first L.length
      · rw [if_pos h1]
        by_cases h2 : anyLong L = true
        · rw [if_pos h2]; exact ⟨_, rfl⟩
        · exact absurd ⟨h1, by simpa using h2⟩ hok
      · rw [if_neg h1]; exact ⟨_, rfl⟩
theorem dec_zero : ∃ e, decB (rpl 512 0) = .error e := by
  have h : (rpl 512 0).take 4 ≠ mag := by
    show (List.replicate 512 0).take 4 ≠ mag
    rw [List.take_replicate]
    decide
  refine ⟨.form, ?_⟩
  unfold decB
  rw [if_neg (by simp), if_pos (.inr h)]
theorem scan_zero (m first : Nat) : scanB (badOf []) ((rpl m 0).length / 512) (rpl m 0) 0 first = ([], 0) := by
  obtain ⟨q, hq⟩ : ∃ q, (rpl m 0).length / 512 = q := ⟨_, rfl⟩
  rw [hq]
  cases q with
  | zero => rfl
  | succ q =>
    have hm : 512 ≤ m := by simp at hq; omega
    rw [scanB, if_neg (by rw [badOf_nil]; simp; omega)]
    have e : (rpl m 0).take 512 = rpl 512 0 := by rw [List.take_replicate, Nat.min_eq_left hm]
    obtain ⟨x, hx⟩ := dec_zero
    rw [e, hx]

/-- Rows that get three bytes of spare room, one after another. -/
structure Gv (w wr : World) (B0 ga n : Nat) (V : Nat → Value) (F : Nat → List UInt8) (k : Nat) : Prop where
  up : Below B0 w wr
  sz : B0 ≤ wr.heap.size
  bga : B0 ≤ ga
  row : ∃ cur, wr.heap[ga]? = some (.cells cur 27 (0, 0)) ∧ n ≤ cur.size ∧ ∀ j, j < n → cur[j]? = some (V j)
  spr : ∀ j, j < n → j < k → ∃ g cp, V j = .slice (some ⟨g, 0, none⟩) (F j).length cp ∧ OwnM wr B0 (.slice (some ⟨g, 0, none⟩) ((F j).length + 3) cp) (F j ++ t3)
  own : ∀ j, j < n → k ≤ j → OwnM wr B0 (V j) (F j)
  nga : ∀ j, j < n → ∀ q, (V j).ownBlock = some q → q ≠ ga
  dis : ∀ i j, i < n → j < n → i ≠ j → ∀ q, (V i).ownBlock = some q → (V j).ownBlock ≠ some q
theorem Gv.lt {w wr : World} {B0 ga n : Nat} {V : Nat → Value} {F : Nat → List UInt8} {k : Nat} (h : Gv w wr B0 ga n V F k) (j : Nat) (hj : j < n) (q : Nat) (hq : (V j).ownBlock = some q) : B0 ≤ q ∧ q < wr.heap.size := by
  by_cases hk : j < k
  · obtain ⟨g, cp, e, o⟩ := h.spr j hj hk
    rw [e] at hq
    exact o.lt q hq
  · exact (h.own j hj (by omega)).lt q hq
theorem Gv.galt {w wr : World} {B0 ga n : Nat} {V : Nat → Value} {F : Nat → List UInt8} {k : Nat} (h : Gv w wr B0 ga n V F k) : ga < wr.heap.size := by
  obtain ⟨cur, c, _⟩ := h.row
  exact (Array.getElem?_eq_some_iff.1 c).1
theorem Gv.cell {w wr : World} {B0 ga n : Nat} {V : Nat → Value} {F : Nat → List UInt8} {k : Nat} (h : Gv w wr B0 ga n V F k) (j : Nat) (hj : j < n) : wr.cell? ⟨ga, j, none⟩ = some (V j) ∧ wr.frozen? ⟨ga, j, none⟩ = false := by
  obtain ⟨cur, c1, c2, c3⟩ := h.row
  exact ⟨by rw [cell_of_row wr ga _ cur _ (0, 0) c1]; exact c3 j hj, by simp [World.frozen?, c1]⟩
theorem Gv.up' {w wr w' : World} {B0 ga n : Nat} {V : Nat → Value} {F : Nat → List UInt8} {k : Nat} (h : Gv w wr B0 ga n V F k) (u : Up wr w') : Gv w w' B0 ga n V F k := by
  have hga := h.galt
  refine ⟨h.up.trans (Below.mono u h.sz), Nat.le_trans h.sz u.size, h.bga, ?_, fun j hj hk => ?_, fun j hj hk => (h.own j hj hk).up u, h.nga, h.dis⟩
  · obtain ⟨cur, c1, c2⟩ := h.row
    exact ⟨cur, by rw [u.block ga hga]; exact c1, c2⟩
  · obtain ⟨g, cp, e, o⟩ := h.spr j hj hk
    exact ⟨g, cp, e, o.up u⟩
theorem Gv.step {w wr W1 w' : World} {B0 ga n : Nat} {V : Nat → Value} {F : Nat → List UInt8} {k : Nat} (h : Gv w wr B0 ga n V F k) (hk : k < n) (uW : Up wr W1) {v' : Value}
    (ho : OwnM w' B0 v' (F k ++ t3)) (ht : (Up W1 w' ∧ (∀ q, v'.ownBlock = some q → W1.heap.size ≤ q)) ∨ ∃ g, (V k).ownBlock = some g ∧ v'.ownBlock = some g ∧ W1.grownBy w' (some g)) :
    ∃ g' c', v' = .slice (some ⟨g', 0, none⟩) ((F k).length + 3) c' ∧ (F k).length + 3 ≤ c' ∧ w'.cell? ⟨ga, k, none⟩ = some (V k) ∧ w'.frozen? ⟨ga, k, none⟩ = false ∧
      ∃ V', Gv w (w'.setCell ⟨ga, k, none⟩ (.slice (some ⟨g', 0, none⟩) (F k).length c')) B0 ga n V' F (k + 1) := by
  have h1 := h.up' uW
  have hga := h1.galt
  obtain ⟨g', c', e, hcp⟩ : ∃ g' c', v' = .slice (some ⟨g', 0, none⟩) ((F k).length + 3) c' ∧ (F k).length + 3 ≤ c' := by
    have ho2 := ho
    rcases ho.shp with ⟨_, e2⟩ | ⟨g, cp, e, _⟩
    · have := congrArg List.length e2
      simp [t3] at this
    · have e3 : (F k ++ t3).length = (F k).length + 3 := by simp [t3]
      rw [e3] at e
      rw [e] at ho2
      obtain ⟨_, cur, f, _, _, hc, _⟩ := ho2.parts
      exact ⟨g, cp, e, by omega⟩
  subst e
  have hb : B0 ≤ g' ∧ g' < w'.heap.size := ho.lt g' rfl
  -- what w' keeps of the old blocks
  have hkeep : ∀ q, q < W1.heap.size → (V k).ownBlock ≠ some q → w'.heap[q]? = W1.heap[q]? := fun q hq hne => by
    rcases ht with ⟨u, _⟩ | ⟨g, e1, _, hg⟩
    · exact u.block q hq
    · exact hg.block q hq (fun e => hne (by rw [e1]; exact e.symm))
  have hsz : W1.heap.size ≤ w'.heap.size := by
    rcases ht with ⟨u, _⟩ | ⟨g, _, _, hg⟩
    · exact u.size
    · exact hg.size
  have hblk : (V k).ownBlock = some g' ∨ W1.heap.size ≤ g' := by
    rcases ht with ⟨_, hn⟩ | ⟨g, e1, e2, _⟩
    · exact .inr (hn g' rfl)
    · cases e2; exact .inl e1
  have hupw : Below B0 w w' := by
    rcases ht with ⟨u, _⟩ | ⟨g, e1, e2, hg⟩
    · exact h1.up.trans (Below.mono u h1.sz)
    · cases e2; exact h1.up.trans (But.below hg hb.1 h1.sz)
  have hkga : w'.heap[ga]? = W1.heap[ga]? := hkeep ga hga (fun e => h.nga k hk ga e rfl)
  obtain ⟨cur, c1, c2, c3⟩ := h1.row
  rw [← hkga] at c1
  have hgga : g' ≠ ga := by
    rintro rfl
    rcases hblk with r | r
    · exact h.nga k hk _ r rfl
    · omega
  have hbt := But.setCell w' ga k (.slice (some ⟨g', 0, none⟩) (F k).length c')
  have hkeep2 : ∀ q, q < w'.heap.size → q ≠ ga → (w'.setCell ⟨ga, k, none⟩ (.slice (some ⟨g', 0, none⟩) (F k).length c')).heap[q]? = w'.heap[q]? := fun q hq hne => hbt.block q hq (fun e => hne (by cases e; rfl))
  have hoth : ∀ j, j < n → j ≠ k → ∀ q, (V j).ownBlock = some q → q < W1.heap.size ∧ (V k).ownBlock ≠ some q ∧ q ≠ ga ∧ q ≠ g' := fun j hj hjk q hq => by
    have hl := (h1.lt j hj q hq).2
    refine ⟨hl, h.dis j k hj hk hjk q hq, h.nga j hj q hq, fun e => ?_⟩
    subst e
    rcases hblk with r | r
    · exact h.dis j k hj hk hjk q hq r
    · omega
  refine ⟨g', c', rfl, hcp, by rw [cell_of_row w' ga _ cur _ (0, 0) c1]; exact c3 k hk, by simp [World.frozen?, c1], fun j => if j = k then .slice (some ⟨g', 0, none⟩) (F k).length c' else V j, ?_⟩
  refine ⟨hupw.trans (But.below hbt h.bga (Nat.le_trans h1.sz hsz)), Nat.le_trans h1.sz (Nat.le_trans hsz hbt.size), h.bga, ?_, fun j hj hjk => ?_, fun j hj hjk => ?_, fun j hj q hq => ?_, fun i j hi hj hij q hq => ?_⟩
  · refine ⟨cur.setIfInBounds k (.slice (some ⟨g', 0, none⟩) (F k).length c'), heap_setCellF w' ga _ k (0, 0) cur _ c1, by simpa using c2, fun j hj => ?_⟩
    rw [Array.getElem?_setIfInBounds]
    by_cases hjk : k = j
    · subst hjk
      rw [if_pos rfl, if_pos (by omega), if_pos rfl]
    · rw [if_neg hjk, if_neg (fun e => hjk e.symm)]
      exact c3 j hj
  · by_cases e : j = k
    · subst e
      refine ⟨g', c', by rw [if_pos rfl], ho.kept (fun q hq => ?_)⟩
      cases hq
      exact hkeep2 _ hb.2 hgga
    · obtain ⟨g, cp, e1, o⟩ := h1.spr j hj (by omega)
      obtain ⟨q1, q2, q3, q4⟩ := hoth j hj e g (by rw [e1]; rfl)
      have o2 : OwnM w' B0 (.slice (some ⟨g, 0, none⟩) ((F j).length + 3) cp) (F j ++ t3) := o.kept (fun q hq => by cases hq; exact hkeep g q1 q2)
      refine ⟨g, cp, by rw [if_neg e]; exact e1, o2.kept (fun q hq => ?_)⟩
      cases hq
      exact hkeep2 g (by omega) q3
  · have e : j ≠ k := by omega
    rw [if_neg e]
    have o2 : OwnM w' B0 (V j) (F j) := (h1.own j hj (by omega)).kept (fun q hq => by
      obtain ⟨q1, q2, q3, q4⟩ := hoth j hj e q hq
      exact hkeep q q1 q2)
    refine o2.kept (fun q hq => ?_)
    obtain ⟨q1, q2, q3, q4⟩ := hoth j hj e q hq
    exact hkeep2 q (by omega) q3
  · by_cases e : j = k
    · subst e
      simp only [if_true] at hq
      cases hq
      exact hgga
    · simp only [if_neg e] at hq
      exact h.nga j hj q hq
  · by_cases e1 : i = k
    · subst e1
      simp only [if_true] at hq
      cases hq
      intro e2
      have hji : j ≠ i := Ne.symm hij
      simp only [if_neg hji] at e2
      exact (hoth j hj hji _ e2).2.2.2 rfl
    · simp only [if_neg e1] at hq
      by_cases e2 : j = k
      · subst e2
        simp only [if_true]
        intro e3
        cases e3
        exact (hoth i hi e1 _ hq).2.2.2 rfl
      · simp only [if_neg e2]
        exact h.dis i j hi hj hij q hq
theorem Gv.rw {w wr : World} {B0 ga n cap : Nat} {V : Nat → Value} {L : List (List UInt8)} (h : Gv w wr B0 ga n V (lf L) n) (hn : L.length = n) (hc : n ≤ cap) : Rw wr (.slice (some ⟨ga, 0, none⟩) n cap) L := by
  refine ⟨some ⟨ga, 0, none⟩, cap, by rw [hn], by omega, fun _ => ⟨ga, 0, rfl, fun i hi => ⟨V i, by rw [Nat.zero_add]; exact (h.cell i (by omega)).1, ?_⟩⟩⟩
  have hL : lf L i = L[i] := by unfold lf; rw [List.getD_eq_getElem?_getD, List.getElem?_eq_getElem hi]; rfl
  obtain ⟨g, cp, e, o⟩ := h.spr i (by omega) (by omega)
  rw [e, ← hL]
  have hcap : (lf L i).length ≤ cp := by
    obtain ⟨_, cur, f, _, _, hc, _⟩ := o.parts
    simp [t3] at hc
    omega
  refine ⟨_, _, rfl, hcap, (by intro e; cases e), fun _ => ⟨g, 0, rfl, Nat.zero_le _, fun s hs => ?_⟩⟩
  have ha := o.at s (by simp; omega)
  rw [List.getElem_append_left hs] at ha
  exact ha
theorem recs_gv {w wr : World} {B0 ga n cap : Nat} {L : List (List UInt8)} {vs : List Value} (h : Recs wr B0 (.slice (some ⟨ga, 0, none⟩) n cap) L vs) (hn : L.length = n) (u : Up w wr) (hB : w.heap.size = B0) : Gv w wr B0 ga n (vf vs) (lf L) 0 := by
  have hl := h.len
  have hs := recs_apS h (Nat.le_refl _)
  have hg := World.ownsRow.lt h.row ga rfl
  rcases h.row.parts with ⟨e, _⟩ | ⟨g, c, cur, e, hb, hlt, hgc, hnc, hcm, hcs, ht⟩
  · cases e
  · have eg : ga = g := by simp only [Value.slice.injEq, Option.some.injEq, Addr.mk.injEq] at e; exact e.1.1
    subst eg
    have hL : ∀ j (hj : j < L.length), lf L j = L[j] := fun j hj => by unfold lf; rw [List.getD_eq_getElem?_getD, List.getElem?_eq_getElem hj]; rfl
    have hv : ∀ j (hj : j < vs.length), vf vs j = vs[j] := fun j hj => by unfold vf; rw [List.getD_eq_getElem?_getD, List.getElem?_eq_getElem hj]; rfl
    refine ⟨by rw [← hB]; exact u, by rw [← hB]; exact u.size, hg.1, ⟨cur, hgc, by omega, fun j hj => ?_⟩, fun j hj hk => by omega, fun j hj _ => ?_, fun j hj q hq => (hs.blk j (by omega) q hq).2.2, fun i j hi hj => hs.dis i j (by omega) (by omega)⟩
    · have hj' : j < vs.length := by omega
      rw [hv j hj']
      have h2 : (cur.toList.take vs.length)[j]? = some vs[j] := by rw [ht]; exact List.getElem?_eq_getElem hj'
      rw [List.getElem?_take, if_pos hj'] at h2
      simpa using h2
    · rw [hv j (by omega), hL j (by omega)]
      exact h.each j (by omega) (by omega)
/-- The front of a row of one's own. -/
theorem ownM_front {w : World} {B0 g n cap : Nat} {bs cs : List UInt8} (h : OwnM w B0 (.slice (some ⟨g, 0, none⟩) n cap) (bs ++ cs)) : OwnM w B0 (.slice (some ⟨g, 0, none⟩) bs.length cap) bs := by
  obtain ⟨rfl, cur, f, hb, hg, hnc, hcm, hcs, ht, hf⟩ := h.parts
  refine .inr ⟨g, cap, cur, f, rfl, hb, hg, by simp at hnc; omega, hcm, hcs, ?_, hf⟩
  have h2 := congrArg (List.take bs.length) ht
  rw [List.take_take, List.length_append, Nat.min_eq_left (by omega)] at h2
  rw [h2]
  simp [Bv]

theorem agree8_nil (w : World) : Calls Tryd.prog 8 #[.nilIface, .nilIface] w fun e w' => e = .returned (.bool true) ∧ w' = w := by
  go_enter Tryd.func8, Tryd.ntmps8
  go_wp2
  go_ret
  exact ⟨rfl, rfl⟩
theorem agree8_same (a : Addr) (w : World) : Calls Tryd.prog 8 #[E a, E a] w fun e w' => e = .returned (.bool true) ∧ w' = w := by
  have q := eq_same a
  go_enter Tryd.func8, Tryd.ntmps8
  go_wp2
  go_ret
  exact ⟨rfl, rfl⟩
end Go.Proofs.YtkfjkfpodkbkaaaDoor

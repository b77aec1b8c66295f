/- Merged: BkApartW. -/
import Derived.Test.YtkfjkfpodkbkaaaDoorMk23
set_option linter.unusedVariables false
set_option linter.unusedSimpArgs false
namespace Go.Proofs.YtkfjkfpodkbkaaaDoor
open Go Go.RowKit

def vf (vs : List Value) (j : Nat) : Value := vs.getD j (.slice none 0 0)
def lf (L : List (List UInt8)) (j : Nat) : List UInt8 := L.getD j []
structure Am (w wr : World) (B0 gr gw n : Nat) (vs : Nat → Value) (L : Nat → List UInt8) (k : Nat) : Prop where
  up : Below B0 w wr
  gs : gw < wr.heap.size
  row : ∀ j, j < n → wr.cell? ⟨gr, j, none⟩ = some (vs j)
  own : ∀ j, j < n → OwnM wr B0 (vs j) (if j < k then rpl (L j).length (cj j) else L j)
  gwr : ∃ cur, wr.heap[gw]? = some (.cells cur 27 (0, 0)) ∧ cur.size = n
theorem Am.step {w wr w' : World} {B0 gr gw n k : Nat} {vs : Nat → Value} {L : Nat → List UInt8} (h : Am w wr B0 gr gw n vs L k) (hs : ApS B0 gr gw n vs) (hk : k < n) (hB : B0 ≤ wr.heap.size) (ho : OwnM w' B0 (vs k) (rpl (L k).length (cj k))) (hg : wr.grownBy w' (vs k).ownBlock) : Am w w' B0 gr gw n vs L (k + 1) := by
  have hgs := h.gs
  have hgr := hs.grw
  have hkeep : ∀ q, q < wr.heap.size → (vs k).ownBlock ≠ some q → w'.heap[q]? = wr.heap[q]? := fun q hq hne => hg.block q hq (fun e => hne e.symm)
  refine ⟨h.up.trans (grown_below hg hB (fun q hq => (hs.blk k hk q hq).1)), by have := hg.size; omega, fun j hj => ?_, fun j hj => ?_, ?_⟩
  · rw [World.cell?_of_block (hkeep gr (by omega) (fun e => (hs.blk k hk gr e).2.2 rfl))]
    exact h.row j hj
  · by_cases hjk : j = k
    · subst hjk
      rw [if_pos (by omega)]
      exact ho
    · have h1 := (h.own j hj).kept (fun q hq => hkeep q ((h.own j hj).lt q hq).2 (hs.dis j k hj hk hjk q hq))
      by_cases hlt : j < k
      · rw [if_pos (by omega)]
        rwa [if_pos hlt] at h1
      · rw [if_neg (by omega)]
        rwa [if_neg hlt] at h1
  · obtain ⟨cur, c1, c2⟩ := h.gwr
    exact ⟨cur, by rw [hkeep gw hgs (fun e => by have := (hs.blk k hk gw e).2.1; omega)]; exact c1, c2⟩
theorem Am.done {w wr : World} {B0 gr gw n : Nat} {vs : Nat → Value} {L : Nat → List UInt8} (h : Am w wr B0 gr gw n vs L n) (G : Nat → Value) : Ap w wr B0 gr gw n wr.heap.size vs (fun j => (L j).length) 0 0 G := by
  have ho : ∀ j, j < n → OwnM wr B0 (vs j) (rpl (L j).length (cj j)) := fun j hj => by
    have := h.own j hj
    rwa [if_pos hj] at this
  refine ⟨h.up, Nat.le_refl _, h.gs, h.row, fun j hj => (ho j hj).rd, fun j hj _ => ho j hj, fun j hj => by omega, ?_⟩
  obtain ⟨cur, c1, c2⟩ := h.gwr
  exact ⟨cur, c1, c2, fun j hj => by omega⟩
theorem Ap.less {w wr : World} {B0 gr gw n s : Nat} {vs : Nat → Value} {ln : Nat → Nat} {i k k' : Nat} {G : Nat → Value} (h : Ap w wr B0 gr gw n s vs ln i k G) (hk : k ≤ k') : Ap w wr B0 gr gw n s vs ln i k' G :=
  ⟨h.up, h.sz, h.gs, h.row, h.lst, fun j hj h2 => h.own j hj (by omega), h.gro, h.gwr⟩
theorem Ap.cell {w wr : World} {B0 gr gw n s : Nat} {vs : Nat → Value} {ln : Nat → Nat} {i k : Nat} {G : Nat → Value} (h : Ap w wr B0 gr gw n s vs ln i k G) (j : Nat) (hj : j < n) : (∃ u, wr.cell? ⟨gw, j, none⟩ = some u ∧ (j < i → u = G j)) ∧ wr.frozen? ⟨gw, j, none⟩ = false := by
  obtain ⟨cur, c1, c2, c3⟩ := h.gwr
  refine ⟨⟨cur[j]'(by omega), ?_, fun hji => ?_⟩, by simp [World.frozen?, c1]⟩
  · rw [cell_of_row wr gw _ cur _ (0, 0) c1]
    exact Array.getElem?_eq_getElem (by omega)
  · have := c3 j hji
    rw [Array.getElem?_eq_getElem (by omega)] at this
    exact Option.some.inj this
theorem recs_apS {w : World} {B0 gr M cap n : Nat} {L : List (List UInt8)} {vs : List Value} (h : Recs w B0 (.slice (some ⟨gr, 0, none⟩) M cap) L vs) (hn : n ≤ L.length) : ApS B0 gr w.heap.size n (vf vs) := by
  have hl := h.len
  have hg := World.ownsRow.lt h.row gr rfl
  have hnd := (ownblocks_iff vs).1 h.nd
  have hv : ∀ j (hj : j < vs.length), vf vs j = vs[j] := fun j hj => by unfold vf; rw [List.getD_eq_getElem?_getD, List.getElem?_eq_getElem hj]; rfl
  refine ⟨hg.2, hg.1, fun j hj q hq => ?_, fun i j hi hj hij q hq e => ?_⟩
  · have hj' : j < vs.length := by omega
    rw [hv j hj'] at hq
    have o := h.each j hj' (by omega)
    exact ⟨(o.lt q hq).1, (o.lt q hq).2, fun e => rows_apartM h.row o (by rw [e]; rfl) hq⟩
  · have hi' : i < vs.length := by omega
    have hj' : j < vs.length := by omega
    rw [hv i hi'] at hq
    rw [hv j hj'] at e
    rcases Nat.lt_or_gt_of_ne hij with z | z
    · exact hnd i j hi' hj' q z hq e
    · exact hnd j i hj' hi' q z e hq
theorem recs_am {w : World} {B0 gr M cap n : Nat} {L : List (List UInt8)} {vs : List Value} (h : Recs w B0 (.slice (some ⟨gr, 0, none⟩) M cap) L vs) (hn : n ≤ L.length) (hB : B0 ≤ w.heap.size) : Am w (w.alloc (.cells (madeCells #[.slice none 0 0] n) 27)) B0 gr w.heap.size n (vf vs) (lf L) 0 := by
  have hl := h.len
  have u := Up.alloc w (.cells (madeCells #[.slice none 0 0] n) 27)
  have hg := World.ownsRow.lt h.row gr rfl
  have hv : ∀ j (hj : j < vs.length), vf vs j = vs[j] := fun j hj => by unfold vf; rw [List.getD_eq_getElem?_getD, List.getElem?_eq_getElem hj]; rfl
  have hL : ∀ j (hj : j < L.length), lf L j = L[j] := fun j hj => by unfold lf; rw [List.getD_eq_getElem?_getD, List.getElem?_eq_getElem hj]; rfl
  refine ⟨Below.mono u hB, by simp, fun j hj => ?_, fun j hj => ?_, _, heap_alloc_new _ _, by simp [size_madeCells]⟩
  · have hj' : j < vs.length := by omega
    obtain ⟨g', cap', e, hc⟩ := h.row.cell j hj'
    have e2 : gr = g' := by simp only [Value.slice.injEq, Option.some.injEq, Addr.mk.injEq] at e; exact e.1.1
    subst e2
    rw [World.cell?_of_block (u.block gr hg.2), hc, hv j hj']
  · have hj' : j < vs.length := by omega
    rw [if_neg (by omega), hv j hj', hL j (by omega)]
    exact (h.each j hj' (by omega)).up u

set_option maxRecDepth 20000 in
set_option maxHeartbeats 6400000 in
theorem apart_any (v : Value) (L : List (List UInt8)) (vs : List Value) (w : World) (B0 : Nat) (h : Recs w B0 v L vs) (hB : B0 ≤ w.heap.size) (hl : L.length ≤ 1000000000) (hL : ∀ r ∈ L, r.length ≤ 1000000) :
    Calls Tryd.prog 13 #[v] w fun e w' => e = .returned (.bool true) ∧ Below B0 w w' := by
  have hlf : ∀ j, (lf L j).length ≤ 1000000 := fun j => by
    unfold lf
    rw [List.getD_eq_getElem?_getD]
    by_cases hj : j < L.length
    · rw [List.getElem?_eq_getElem hj]
      exact hL _ (List.getElem_mem hj)
    · rw [List.getElem?_eq_none (by omega)]
      simp
  have HLF : Hid (∀ j, (lf L j).length ≤ 1000000) := hlf
  clear hlf hL
  rcases h.row.parts with ⟨rfl, rfl⟩ | ⟨gr, cap, cur, rfl, hb, hlt, hgr, hnc, hcm, hcs, htk⟩
  · have hmk0 := make_rows 0 (by omega) w
    have hmk : (Instr.makeSlice 23 (.int .i64 0) (.int .i64 0)).run Tryd.prog w = .ok (.slice (some ⟨w.heap.size, 0, none⟩) 0 0) (w.alloc (.cells (madeCells #[.slice none 0 0] 0) 27)) := by simpa using hmk0
    have HU : Hid (Below B0 w (w.alloc (.cells (madeCells #[.slice none 0 0] 0) 27))) := Below.mono (Up.alloc _ _) hB
    generalize w.alloc (.cells (madeCells #[.slice none 0 0] 0) 27) = W1 at hmk HU
    clear h hB hl hmk0 HLF
    go_enter Tryd.func13, Tryd.ntmps13
    go_wp2_with fail
    go_loopg [4] 0 (fun q p wr => p = .int .i64 0 ∧ q = 0 ∧ W1 = wr)
    case atStart => exact ⟨rfl, rfl, rfl⟩
    case round =>
      obtain ⟨rfl, rfl, rfl⟩ := hrel
      go_wp2_with fail
      go_loopg [5] 0 (fun q p wr => p = .int .i64 0 ∧ q = 0 ∧ W1 = wr)
      case atStart => exact ⟨rfl, rfl, rfl⟩
      case round =>
        obtain ⟨rfl, rfl, rfl⟩ := hrel
        go_wp2_with fail
        go_loopg [8] 0 (fun q p wr => p = .int .i64 0 ∧ q = 0 ∧ W1 = wr)
        case atStart => exact ⟨rfl, rfl, rfl⟩
        case round =>
          obtain ⟨rfl, rfl, rfl⟩ := hrel
          go_wp2
          go_ret
          exact ⟨rfl, HU.out⟩
  · obtain ⟨M, hM⟩ : ∃ M, vs.length = M := ⟨_, rfl⟩
    have hML : M ≤ L.length := by rw [← hM, h.len]; exact Nat.le_refl _
    rw [hM] at h hnc ⊢
    have HR : Hid (Recs w B0 (.slice (some ⟨gr, 0, none⟩) M cap) L vs ∧ B0 ≤ w.heap.size ∧ M ≤ L.length) := ⟨h, hB, hML⟩
    have m1 : (M : Int) ≤ 1000000000 := by omega
    have m2 : (0 : Int) ≤ (M : Int) := by omega
    have m3 : M ≤ cap := hnc
    have m4 : (M : Int) ≤ (cap : Int) := by omega
    by_cases hn : 250 < M
    · have e1 : decide ((250 : Int) < (M : Int)) = true := by simp; omega
      have e2 : 250 ≤ cap := by omega
      have e3 : (250 : Int) ≤ (cap : Int) := by omega
      have hmk0 := make_rows 250 (by omega) w
      have hmk : (Instr.makeSlice 23 (.int .i64 250) (.int .i64 250)).run Tryd.prog w = .ok (.slice (some ⟨w.heap.size, 0, none⟩) 250 250) (w.alloc (.cells (madeCells #[.slice none 0 0] 250) 27)) := by simpa using hmk0
      have HN : Hid (250 ≤ 250 ∧ 250 ≤ L.length) := ⟨by omega, by omega⟩
      have HS : Hid (ApS B0 gr w.heap.size 250 (vf vs)) := recs_apS HR.out.1 HN.out.2
      have HA : Hid (Am w (w.alloc (.cells (madeCells #[.slice none 0 0] 250) 27)) B0 gr w.heap.size 250 (vf vs) (lf L) 0) := recs_am HR.out.1 HN.out.2 HR.out.2.1
      generalize w.alloc (.cells (madeCells #[.slice none 0 0] 250) 27) = W1 at hmk HA
      have HB0 : Hid (∀ u, Below B0 w u → B0 ≤ u.heap.size) := fun u hu => Nat.le_trans HR.out.2.1 hu.size
      clear h hB hl hb hlt hgr hnc hcm hcs htk hM hML hn hmk0
      obtain ⟨gw, hgw⟩ : ∃ gw, w.heap.size = gw := ⟨_, rfl⟩
      have HGW : Hid (w.heap.size = gw) := hgw
      rw [hgw] at HS HA hmk
      clear hgw
      go_enter Tryd.func13, Tryd.ntmps13
      go_wp2_with fail
      go_loopg [4] 250 (fun q p wr => ∃ k : Nat, q = 250 - k ∧ p = .int .i64 (k : Int) ∧ Hid (k ≤ 250 ∧ Am w wr B0 gr gw 250 (vf vs) (lf L) k))
      case atStart => exact ⟨0, rfl, rfl, Nat.zero_le _, HA.out⟩
      case round =>
        obtain ⟨k, rfl, rfl, HK⟩ := hrel
        have k0 : (0 : Int) ≤ (k : Int) := by omega
        by_cases hk : k < 250
        · have k1 : (k : Int) < 250 := by omega
          have k2 : (k : Int) < 250 := by have := HN.out.1; omega
          obtain ⟨C, hC⟩ : ∃ C : Nat, k + 1 = C := ⟨_, rfl⟩
          have c1 : (k : Int) + 1 = (C : Int) := by omega
          have c2 : (C : Int) ≤ 250 := by omega
          have c3 : (0 : Int) ≤ (C : Int) := by omega
          have kc := HK.out.2.row k hk
          have ho := HK.out.2.own k hk
          rw [if_neg (by omega)] at ho
          have hm := mark_any (vf vs k) (lf L k) C (cj k) (by rw [cj_nat k (by omega), hC]) wr B0 ho (by have := HLF.out k; omega)
          have HK2 : Hid (k < 250 ∧ k + 1 = C) := ⟨hk, hC⟩
          obtain ⟨vk, hvk⟩ : ∃ x, vf vs k = x := ⟨_, rfl⟩
          have HVK : Hid (vf vs k = vk) := hvk
          rw [hvk] at kc hm
          clear ho hk hC hvk
          go_wp2_with fail
          refine hm.mono ?_
          rintro e w6 ⟨rfl, ho6, hg6⟩
          clear hm
          rw [← HVK.out] at ho6 hg6
          have H6 : Hid (Am w w6 B0 gr gw 250 (vf vs) (lf L) (k + 1)) := HK.out.2.step HS.out HK2.out.1 (HB0.out _ HK.out.2.up) ho6 hg6
          clear ho6 hg6
          go_wp2_with fail
          go_roundg (250 - (k + 1))
          case measure => have := HK2.out.1; omega
          case rel => exact ⟨k + 1, rfl, by go_num, HK2.out.1, H6.out⟩
        · have k1 : ¬ (k : Int) < 250 := by omega
          have HP : Hid (Ap w wr B0 gr gw 250 wr.heap.size (vf vs) (fun j => (lf L j).length) 0 0 (fun _ => .slice none 0 0)) := by
            have h1 := HK.out.2
            have h2 : k = 250 := by have := HK.out.1; omega
            rw [h2] at h1
            exact h1.done _
          clear hk
          go_wp2_with fail
          go_loopg [5] 250 (fun q p wr => ∃ i : Nat, q = 250 - i ∧ p = .int .i64 (i : Int) ∧ Hid (i ≤ 250 ∧ ∃ s G, Ap w wr B0 gr gw 250 s (vf vs) (fun j => (lf L j).length) i i G))
          case atStart => exact ⟨0, rfl, rfl, Nat.zero_le _, _, _, HP.out⟩
          case round =>
            clear k0 k1
            obtain ⟨i, rfl, rfl, HI⟩ := hrel
            have i0 : (0 : Int) ≤ (i : Int) := by omega
            by_cases hi : i < 250
            · have i1 : (i : Int) < 250 := by omega
              have i2 : (i : Int) < 250 := by have := HN.out.1; omega
              obtain ⟨s, G, hap⟩ := HI.out.2
              obtain ⟨C, hC⟩ : ∃ C : Nat, i + 1 = C := ⟨_, rfl⟩
              have c1 : (i : Int) + 1 = (C : Int) := by omega
              have c2 : (C : Int) ≤ 250 := by omega
              have c3 : (0 : Int) ≤ (C : Int) := by omega
              have kc := hap.row i hi
              have HI2 : Hid (i < 250 ∧ (cj i).toNat = C ∧ Ap w wr B0 gr gw 250 s (vf vs) (fun j => (lf L j).length) i (i + 1) G ∧ OwnM wr B0 (vf vs i) (rpl ((lf L i).length + 0) (cj i))) := ⟨hi, by rw [cj_nat i (by omega), hC], hap.less (by omega), hap.own i hi (Nat.le_refl _)⟩
              obtain ⟨vi, hvi⟩ : ∃ x, vf vs i = x := ⟨_, rfl⟩
              have HVI : Hid (vf vs i = vi) := hvi
              rw [hvi] at kc
              clear hi hC hap hvi
              go_wp2_with fail
              go_loopg [7, 6] 16 (fun q p q2 wr => ∃ (t : Nat) (gv : Value), q = 16 - t ∧ p = .int .i64 (t : Int) ∧ gv = q2 ∧ Hid (t ≤ 16 ∧ Ap w wr B0 gr gw 250 s (vf vs) (fun j => (lf L j).length) i (i + 1) G ∧ OwnM wr B0 gv (rpl ((lf L i).length + t) (cj i)) ∧ (∀ q, gv.ownBlock = some q → (vf vs i).ownBlock = some q ∨ s ≤ q)))
              case atStart => exact ⟨0, vi, rfl, rfl, rfl, Nat.zero_le _, HI2.out.2.2.1, by rw [← HVI.out]; exact HI2.out.2.2.2, fun q hq => .inl (by rw [HVI.out]; exact hq)⟩
              case round =>
                obtain ⟨t, gv, rfl, rfl, rfl, HT⟩ := hrel
                have t0 : (0 : Int) ≤ (t : Int) := by omega
                by_cases ht : t < 16
                · have t1 : (t : Int) < 16 := by omega
                  have hom := HT.out.2.2.1
                  have hB1 : B0 ≤ wr.heap.size := HB0.out _ HT.out.2.1.up
                  have HT2 : Hid (t < 16) := ht
                  clear ht
                  go_wp2_with (at_builtin; refine wpList_bytesM2 _ rfl (.tmp 46) (.tmp 50) rfl B0 gv (rpl ((lf L i).length + t) (cj i)) [cj i] rfl ⟨wr.heap.size, 0, none⟩ 1 rfl ?pa1 ?pa2 ?pa3 ?pa4 ?pa5 ?_)
                  case pa1 => exact hom.up (Up.alloc _ _)
                  case pa2 =>
                    rw [← HI2.out.2.1]
                    exact (own_built wr [cj i] (by simp)).at.add
                  case pa3 => exact Nat.le_trans hB1 (Up.alloc _ _).size
                  case pa4 => have := HLF.out i; have := HT2.out; simp; omega
                  case pa5 => exact List.cons_ne_nil _ _
                  intro v6 w6 ho6 ht6
                  obtain ⟨q1, q2, q3⟩ := HT.out.2.1.step HS.out hB1 HI2.out.1 hom HT.out.2.2.2 (Up.alloc wr (.cells #[.int .u8 (C : Int)] 5)) ho6 (ht6.imp (fun h => ⟨h.1, fun q hq => by have := h.2 q hq; simpa using this⟩) id)
                  have H6 : Hid (Ap w w6 B0 gr gw 250 s (vf vs) (fun j => (lf L j).length) i (i + 1) G ∧ OwnM w6 B0 v6 (rpl ((lf L i).length + (t + 1)) (cj i)) ∧ (∀ q, v6.ownBlock = some q → (vf vs i).ownBlock = some q ∨ s ≤ q)) := ⟨q1, q2, q3⟩
                  clear ho6 ht6 q1 q2 q3 hom hB1
                  go_wp2_with fail
                  go_roundg (16 - (t + 1))
                  case measure => have := HT2.out; omega
                  case rel => exact ⟨t + 1, v6, rfl, by go_num, rfl, HT2.out, H6.out.1, H6.out.2.1, H6.out.2.2⟩
                · obtain rfl : t = 16 := by have := HT.out.1; omega
                  obtain ⟨gx, cx, rfl⟩ : ∃ gx cx, gv = .slice (some ⟨gx, 0, none⟩) ((lf L i).length + 16) cx := by
                    rcases HT.out.2.2.1.shp with ⟨_, e⟩ | ⟨g, cp, e, _⟩
                    · have := congrArg List.length e
                      simp at this
                    · exact ⟨g, cp, by rw [e]; simp⟩
                  obtain ⟨⟨u9, k9, -⟩, f9⟩ := HT.out.2.1.cell i HI2.out.1
                  have H8 := HT.out.2.1.keep HS.out HI2.out.1 (by have := HR.out.2.1; rw [← HGW.out]; exact this) HT.out.2.2.1 HT.out.2.2.2
                  have H9 : Hid (∃ s G, Ap w (wr.setCell ⟨gw, i, none⟩ (.slice (some ⟨gx, 0, none⟩) ((lf L i).length + 16) cx)) B0 gr gw 250 s (vf vs) (fun j => (lf L j).length) (i + 1) (i + 1) G) := ⟨_, _, H8⟩
                  obtain ⟨R16, hR⟩ : ∃ R16, (lf L i).length + 16 = R16 := ⟨_, rfl⟩
                  rw [hR] at H9 ⊢
                  clear ht H8 hR t0
                  go_wp2_with fail
                  go_roundg (250 - (i + 1))
                  case measure => have := HI2.out.1; omega
                  case rel => exact ⟨i + 1, rfl, by go_num, HI2.out.1, H9.out⟩
            · have i1 : ¬ (i : Int) < 250 := by omega
              have HQ : Hid (∃ s G, Ap w wr B0 gr gw 250 s (vf vs) (fun j => (lf L j).length) 250 250 G) := by
                have h1 := HI.out.2
                have h2 : i = 250 := by have := HI.out.1; omega
                rw [h2] at h1
                exact h1
              obtain ⟨s, G, hap⟩ := HQ.out
              have HP2 : Hid (Ap w wr B0 gr gw 250 s (vf vs) (fun j => (lf L j).length) 250 250 G) := hap
              clear hi hap HQ HI
              obtain ⟨wX, hwX⟩ : ∃ wX, wX = wr := ⟨_, rfl⟩
              subst hwX
              go_wp2_with fail
              clear i0 i1
              go_loopg [8] 250 (fun q p wr => ∃ j : Nat, q = 250 - j ∧ p = .int .i64 (j : Int) ∧ Hid (j ≤ 250) ∧ wX = wr)
              case atStart => exact ⟨0, rfl, rfl, Nat.zero_le _, rfl⟩
              case round =>
                obtain ⟨j, rfl, rfl, HJ, rfl⟩ := hrel
                have j0 : (0 : Int) ≤ (j : Int) := by omega
                by_cases hj : j < 250
                · have j1 : (j : Int) < 250 := by omega
                  have j2 : (j : Int) < 250 := by have := HN.out.1; omega
                  obtain ⟨C, hC⟩ : ∃ C : Nat, j + 1 = C := ⟨_, rfl⟩
                  have c1 : (j : Int) + 1 = (C : Int) := by omega
                  have c2 : (C : Int) ≤ 250 := by omega
                  have c3 : (0 : Int) ≤ (C : Int) := by omega
                  have hcC : (cj j).toNat = C := by rw [cj_nat j (by omega), hC]
                  have hBC : B (cj j) = .int .u8 (C : Int) := by show Value.int .u8 (((cj j).toNat : Nat) : Int) = _; rw [hcC]
                  obtain ⟨⟨u9, k9, e9⟩, -⟩ := HP2.out.cell j hj
                  have hu9 := e9 hj
                  subst hu9
                  have k8 := HP2.out.row j hj
                  obtain ⟨ax, cx, exx, hxx⟩ := (HP2.out.gro j hj).1.slice
                  obtain ⟨ay, cy, eyy, hyy⟩ := (HP2.out.lst j hj).slice
                  rw [exx] at k9
                  rw [eyy] at k8
                  obtain ⟨R, hR⟩ : ∃ R, (lf L j).length = R := ⟨_, rfl⟩
                  obtain ⟨R16, hR16⟩ : ∃ R16, R + 16 = R16 := ⟨_, rfl⟩
                  simp only [hR, hR16, hBC] at k9 k8 hxx hyy
                  have r1 : (R16 : Int) ≤ 1000016 := by have := HLF.out j; omega
                  have r2 : (0 : Int) ≤ (R16 : Int) := by omega
                  have HX : Hid (j < 250 ∧ (∀ s, s < R16 → ∃ g, ax = some ⟨g, 0, none⟩ ∧ wX.cell? ⟨g, s, none⟩ = some (.int .u8 (C : Int))) ∧ (∀ s, s < R → ∃ g, ay = some ⟨g, 0, none⟩ ∧ wX.cell? ⟨g, s, none⟩ = some (.int .u8 (C : Int)))) := ⟨hj, hxx, hyy⟩
                  clear hj hC hcC hBC e9 exx eyy hR hR16 hxx hyy
                  go_wp2_with fail
                  go_loopg [9] R16 (fun q p wr => ∃ t : Nat, q = R16 - t ∧ p = .int .i64 (t : Int) ∧ Hid (t ≤ R16) ∧ wX = wr)
                  case atStart => exact ⟨0, rfl, rfl, Nat.zero_le _, rfl⟩
                  case round =>
                    obtain ⟨t, rfl, rfl, HT, rfl⟩ := hrel
                    have t0 : (0 : Int) ≤ (t : Int) := by omega
                    by_cases ht : t < R16
                    · have t1 : (t : Int) < (R16 : Int) := by omega
                      obtain ⟨gx, rfl, kx⟩ := HX.out.2.1 t ht
                      have HT2 : Hid (t < R16) := ht
                      by_cases ht2 : t < R
                      · have t2 : (t : Int) < (R : Int) := by omega
                        obtain ⟨gy, rfl, ky⟩ := HX.out.2.2 t ht2
                        clear ht ht2
                        go_wp2_with fail
                        go_roundg (R16 - (t + 1))
                        case measure => have := HT2.out; omega
                        case rel => exact ⟨t + 1, rfl, by go_num, HT2.out, rfl⟩
                      · have t2 : ¬ (t : Int) < (R : Int) := by omega
                        clear ht ht2
                        go_wp2_with fail
                        go_roundg (R16 - (t + 1))
                        case measure => have := HT2.out; omega
                        case rel => exact ⟨t + 1, rfl, by go_num, HT2.out, rfl⟩
                    · have t1 : ¬ (t : Int) < (R16 : Int) := by omega
                      clear ht
                      go_wp2_with fail
                      go_roundg (250 - (j + 1))
                      case measure => have := HX.out.1; omega
                      case rel => exact ⟨j + 1, rfl, by go_num, HX.out.1, rfl⟩
                · have j1 : ¬ (j : Int) < 250 := by omega
                  clear hj
                  go_wp2
                  go_ret
                  exact ⟨rfl, HP2.out.up⟩
    · have e1 : decide ((250 : Int) < (M : Int)) = false := by simp; omega
      have hmk0 := make_rows M (by omega) w
      have hmk : (Instr.makeSlice 23 (.int .i64 (M : Int)) (.int .i64 (M : Int))).run Tryd.prog w = .ok (.slice (some ⟨w.heap.size, 0, none⟩) M M) (w.alloc (.cells (madeCells #[.slice none 0 0] M) 27)) := by simpa using hmk0
      have HN : Hid (M ≤ 250 ∧ M ≤ L.length) := ⟨by omega, by omega⟩
      have HS : Hid (ApS B0 gr w.heap.size M (vf vs)) := recs_apS HR.out.1 HN.out.2
      have HA : Hid (Am w (w.alloc (.cells (madeCells #[.slice none 0 0] M) 27)) B0 gr w.heap.size M (vf vs) (lf L) 0) := recs_am HR.out.1 HN.out.2 HR.out.2.1
      generalize w.alloc (.cells (madeCells #[.slice none 0 0] M) 27) = W1 at hmk HA
      have HB0 : Hid (∀ u, Below B0 w u → B0 ≤ u.heap.size) := fun u hu => Nat.le_trans HR.out.2.1 hu.size
      clear h hB hl hb hlt hgr hnc hcm hcs htk hM hML hn hmk0
      obtain ⟨gw, hgw⟩ : ∃ gw, w.heap.size = gw := ⟨_, rfl⟩
      have HGW : Hid (w.heap.size = gw) := hgw
      rw [hgw] at HS HA hmk
      clear hgw
      go_enter Tryd.func13, Tryd.ntmps13
      go_wp2_with fail
      go_loopg [4] M (fun q p wr => ∃ k : Nat, q = M - k ∧ p = .int .i64 (k : Int) ∧ Hid (k ≤ M ∧ Am w wr B0 gr gw M (vf vs) (lf L) k))
      case atStart => exact ⟨0, rfl, rfl, Nat.zero_le _, HA.out⟩
      case round =>
        obtain ⟨k, rfl, rfl, HK⟩ := hrel
        have k0 : (0 : Int) ≤ (k : Int) := by omega
        by_cases hk : k < M
        · have k1 : (k : Int) < (M : Int) := by omega
          have k2 : (k : Int) < 250 := by have := HN.out.1; omega
          obtain ⟨C, hC⟩ : ∃ C : Nat, k + 1 = C := ⟨_, rfl⟩
          have c1 : (k : Int) + 1 = (C : Int) := by omega
          have c2 : (C : Int) ≤ 250 := by omega
          have c3 : (0 : Int) ≤ (C : Int) := by omega
          have kc := HK.out.2.row k hk
          have ho := HK.out.2.own k hk
          rw [if_neg (by omega)] at ho
          have hm := mark_any (vf vs k) (lf L k) C (cj k) (by rw [cj_nat k (by omega), hC]) wr B0 ho (by have := HLF.out k; omega)
          have HK2 : Hid (k < M ∧ k + 1 = C) := ⟨hk, hC⟩
          obtain ⟨vk, hvk⟩ : ∃ x, vf vs k = x := ⟨_, rfl⟩
          have HVK : Hid (vf vs k = vk) := hvk
          rw [hvk] at kc hm
          clear ho hk hC hvk
          go_wp2_with fail
          refine hm.mono ?_
          rintro e w6 ⟨rfl, ho6, hg6⟩
          clear hm
          rw [← HVK.out] at ho6 hg6
          have H6 : Hid (Am w w6 B0 gr gw M (vf vs) (lf L) (k + 1)) := HK.out.2.step HS.out HK2.out.1 (HB0.out _ HK.out.2.up) ho6 hg6
          clear ho6 hg6
          go_wp2_with fail
          go_roundg (M - (k + 1))
          case measure => have := HK2.out.1; omega
          case rel => exact ⟨k + 1, rfl, by go_num, HK2.out.1, H6.out⟩
        · have k1 : ¬ (k : Int) < (M : Int) := by omega
          have HP : Hid (Ap w wr B0 gr gw M wr.heap.size (vf vs) (fun j => (lf L j).length) 0 0 (fun _ => .slice none 0 0)) := by
            have h1 := HK.out.2
            have h2 : k = M := by have := HK.out.1; omega
            rw [h2] at h1
            exact h1.done _
          clear hk
          go_wp2_with fail
          go_loopg [5] M (fun q p wr => ∃ i : Nat, q = M - i ∧ p = .int .i64 (i : Int) ∧ Hid (i ≤ M ∧ ∃ s G, Ap w wr B0 gr gw M s (vf vs) (fun j => (lf L j).length) i i G))
          case atStart => exact ⟨0, rfl, rfl, Nat.zero_le _, _, _, HP.out⟩
          case round =>
            clear k0 k1
            obtain ⟨i, rfl, rfl, HI⟩ := hrel
            have i0 : (0 : Int) ≤ (i : Int) := by omega
            by_cases hi : i < M
            · have i1 : (i : Int) < (M : Int) := by omega
              have i2 : (i : Int) < 250 := by have := HN.out.1; omega
              obtain ⟨s, G, hap⟩ := HI.out.2
              obtain ⟨C, hC⟩ : ∃ C : Nat, i + 1 = C := ⟨_, rfl⟩
              have c1 : (i : Int) + 1 = (C : Int) := by omega
              have c2 : (C : Int) ≤ 250 := by omega
              have c3 : (0 : Int) ≤ (C : Int) := by omega
              have kc := hap.row i hi
              have HI2 : Hid (i < M ∧ (cj i).toNat = C ∧ Ap w wr B0 gr gw M s (vf vs) (fun j => (lf L j).length) i (i + 1) G ∧ OwnM wr B0 (vf vs i) (rpl ((lf L i).length + 0) (cj i))) := ⟨hi, by rw [cj_nat i (by omega), hC], hap.less (by omega), hap.own i hi (Nat.le_refl _)⟩
              obtain ⟨vi, hvi⟩ : ∃ x, vf vs i = x := ⟨_, rfl⟩
              have HVI : Hid (vf vs i = vi) := hvi
              rw [hvi] at kc
              clear hi hC hap hvi
              go_wp2_with fail
              go_loopg [7, 6] 16 (fun q p q2 wr => ∃ (t : Nat) (gv : Value), q = 16 - t ∧ p = .int .i64 (t : Int) ∧ gv = q2 ∧ Hid (t ≤ 16 ∧ Ap w wr B0 gr gw M s (vf vs) (fun j => (lf L j).length) i (i + 1) G ∧ OwnM wr B0 gv (rpl ((lf L i).length + t) (cj i)) ∧ (∀ q, gv.ownBlock = some q → (vf vs i).ownBlock = some q ∨ s ≤ q)))
              case atStart => exact ⟨0, vi, rfl, rfl, rfl, Nat.zero_le _, HI2.out.2.2.1, by rw [← HVI.out]; exact HI2.out.2.2.2, fun q hq => .inl (by rw [HVI.out]; exact hq)⟩
              case round =>
                obtain ⟨t, gv, rfl, rfl, rfl, HT⟩ := hrel
                have t0 : (0 : Int) ≤ (t : Int) := by omega
                by_cases ht : t < 16
                · have t1 : (t : Int) < 16 := by omega
                  have hom := HT.out.2.2.1
                  have hB1 : B0 ≤ wr.heap.size := HB0.out _ HT.out.2.1.up
                  have HT2 : Hid (t < 16) := ht
                  clear ht
                  go_wp2_with (at_builtin; refine wpList_bytesM2 _ rfl (.tmp 46) (.tmp 50) rfl B0 gv (rpl ((lf L i).length + t) (cj i)) [cj i] rfl ⟨wr.heap.size, 0, none⟩ 1 rfl ?pb1 ?pb2 ?pb3 ?pb4 ?pb5 ?_)
                  case pb1 => exact hom.up (Up.alloc _ _)
                  case pb2 =>
                    rw [← HI2.out.2.1]
                    exact (own_built wr [cj i] (by simp)).at.add
                  case pb3 => exact Nat.le_trans hB1 (Up.alloc _ _).size
                  case pb4 => have := HLF.out i; have := HT2.out; simp; omega
                  case pb5 => exact List.cons_ne_nil _ _
                  intro v6 w6 ho6 ht6
                  obtain ⟨q1, q2, q3⟩ := HT.out.2.1.step HS.out hB1 HI2.out.1 hom HT.out.2.2.2 (Up.alloc wr (.cells #[.int .u8 (C : Int)] 5)) ho6 (ht6.imp (fun h => ⟨h.1, fun q hq => by have := h.2 q hq; simpa using this⟩) id)
                  have H6 : Hid (Ap w w6 B0 gr gw M s (vf vs) (fun j => (lf L j).length) i (i + 1) G ∧ OwnM w6 B0 v6 (rpl ((lf L i).length + (t + 1)) (cj i)) ∧ (∀ q, v6.ownBlock = some q → (vf vs i).ownBlock = some q ∨ s ≤ q)) := ⟨q1, q2, q3⟩
                  clear ho6 ht6 q1 q2 q3 hom hB1
                  go_wp2_with fail
                  go_roundg (16 - (t + 1))
                  case measure => have := HT2.out; omega
                  case rel => exact ⟨t + 1, v6, rfl, by go_num, rfl, HT2.out, H6.out.1, H6.out.2.1, H6.out.2.2⟩
                · obtain rfl : t = 16 := by have := HT.out.1; omega
                  obtain ⟨gx, cx, rfl⟩ : ∃ gx cx, gv = .slice (some ⟨gx, 0, none⟩) ((lf L i).length + 16) cx := by
                    rcases HT.out.2.2.1.shp with ⟨_, e⟩ | ⟨g, cp, e, _⟩
                    · have := congrArg List.length e
                      simp at this
                    · exact ⟨g, cp, by rw [e]; simp⟩
                  obtain ⟨⟨u9, k9, -⟩, f9⟩ := HT.out.2.1.cell i HI2.out.1
                  have H8 := HT.out.2.1.keep HS.out HI2.out.1 (by have := HR.out.2.1; rw [← HGW.out]; exact this) HT.out.2.2.1 HT.out.2.2.2
                  have H9 : Hid (∃ s G, Ap w (wr.setCell ⟨gw, i, none⟩ (.slice (some ⟨gx, 0, none⟩) ((lf L i).length + 16) cx)) B0 gr gw M s (vf vs) (fun j => (lf L j).length) (i + 1) (i + 1) G) := ⟨_, _, H8⟩
                  obtain ⟨R16, hR⟩ : ∃ R16, (lf L i).length + 16 = R16 := ⟨_, rfl⟩
                  rw [hR] at H9 ⊢
                  clear ht H8 hR t0
                  go_wp2_with fail
                  go_roundg (M - (i + 1))
                  case measure => have := HI2.out.1; omega
                  case rel => exact ⟨i + 1, rfl, by go_num, HI2.out.1, H9.out⟩
            · have i1 : ¬ (i : Int) < (M : Int) := by omega
              have HQ : Hid (∃ s G, Ap w wr B0 gr gw M s (vf vs) (fun j => (lf L j).length) M M G) := by
                have h1 := HI.out.2
                have h2 : i = M := by have := HI.out.1; omega
                rw [h2] at h1
                exact h1
              obtain ⟨s, G, hap⟩ := HQ.out
              have HP2 : Hid (Ap w wr B0 gr gw M s (vf vs) (fun j => (lf L j).length) M M G) := hap
              clear hi hap HQ HI
              obtain ⟨wX, hwX⟩ : ∃ wX, wX = wr := ⟨_, rfl⟩
              subst hwX
              go_wp2_with fail
              clear i0 i1
              go_loopg [8] M (fun q p wr => ∃ j : Nat, q = M - j ∧ p = .int .i64 (j : Int) ∧ Hid (j ≤ M) ∧ wX = wr)
              case atStart => exact ⟨0, rfl, rfl, Nat.zero_le _, rfl⟩
              case round =>
                obtain ⟨j, rfl, rfl, HJ, rfl⟩ := hrel
                have j0 : (0 : Int) ≤ (j : Int) := by omega
                by_cases hj : j < M
                · have j1 : (j : Int) < (M : Int) := by omega
                  have j2 : (j : Int) < 250 := by have := HN.out.1; omega
                  obtain ⟨C, hC⟩ : ∃ C : Nat, j + 1 = C := ⟨_, rfl⟩
                  have c1 : (j : Int) + 1 = (C : Int) := by omega
                  have c2 : (C : Int) ≤ 250 := by omega
                  have c3 : (0 : Int) ≤ (C : Int) := by omega
                  have hcC : (cj j).toNat = C := by rw [cj_nat j (by omega), hC]
                  have hBC : B (cj j) = .int .u8 (C : Int) := by show Value.int .u8 (((cj j).toNat : Nat) : Int) = _; rw [hcC]
                  obtain ⟨⟨u9, k9, e9⟩, -⟩ := HP2.out.cell j hj
                  have hu9 := e9 hj
                  subst hu9
                  have k8 := HP2.out.row j hj
                  obtain ⟨ax, cx, exx, hxx⟩ := (HP2.out.gro j hj).1.slice
                  obtain ⟨ay, cy, eyy, hyy⟩ := (HP2.out.lst j hj).slice
                  rw [exx] at k9
                  rw [eyy] at k8
                  obtain ⟨R, hR⟩ : ∃ R, (lf L j).length = R := ⟨_, rfl⟩
                  obtain ⟨R16, hR16⟩ : ∃ R16, R + 16 = R16 := ⟨_, rfl⟩
                  simp only [hR, hR16, hBC] at k9 k8 hxx hyy
                  have r1 : (R16 : Int) ≤ 1000016 := by have := HLF.out j; omega
                  have r2 : (0 : Int) ≤ (R16 : Int) := by omega
                  have HX : Hid (j < M ∧ (∀ s, s < R16 → ∃ g, ax = some ⟨g, 0, none⟩ ∧ wX.cell? ⟨g, s, none⟩ = some (.int .u8 (C : Int))) ∧ (∀ s, s < R → ∃ g, ay = some ⟨g, 0, none⟩ ∧ wX.cell? ⟨g, s, none⟩ = some (.int .u8 (C : Int)))) := ⟨hj, hxx, hyy⟩
                  clear hj hC hcC hBC e9 exx eyy hR hR16 hxx hyy
                  go_wp2_with fail
                  go_loopg [9] R16 (fun q p wr => ∃ t : Nat, q = R16 - t ∧ p = .int .i64 (t : Int) ∧ Hid (t ≤ R16) ∧ wX = wr)
                  case atStart => exact ⟨0, rfl, rfl, Nat.zero_le _, rfl⟩
                  case round =>
                    obtain ⟨t, rfl, rfl, HT, rfl⟩ := hrel
                    have t0 : (0 : Int) ≤ (t : Int) := by omega
                    by_cases ht : t < R16
                    · have t1 : (t : Int) < (R16 : Int) := by omega
                      obtain ⟨gx, rfl, kx⟩ := HX.out.2.1 t ht
                      have HT2 : Hid (t < R16) := ht
                      by_cases ht2 : t < R
                      · have t2 : (t : Int) < (R : Int) := by omega
                        obtain ⟨gy, rfl, ky⟩ := HX.out.2.2 t ht2
                        clear ht ht2
                        go_wp2_with fail
                        go_roundg (R16 - (t + 1))
                        case measure => have := HT2.out; omega
                        case rel => exact ⟨t + 1, rfl, by go_num, HT2.out, rfl⟩
                      · have t2 : ¬ (t : Int) < (R : Int) := by omega
                        clear ht ht2
                        go_wp2_with fail
                        go_roundg (R16 - (t + 1))
                        case measure => have := HT2.out; omega
                        case rel => exact ⟨t + 1, rfl, by go_num, HT2.out, rfl⟩
                    · have t1 : ¬ (t : Int) < (R16 : Int) := by omega
                      clear ht
                      go_wp2_with fail
                      go_roundg (M - (j + 1))
                      case measure => have := HX.out.1; omega
                      case rel => exact ⟨j + 1, rfl, by go_num, HX.out.1, rfl⟩
                · have j1 : ¬ (j : Int) < (M : Int) := by omega
                  clear hj
                  go_wp2
                  go_ret
                  exact ⟨rfl, HP2.out.up⟩
end Go.Proofs.YtkfjkfpodkbkaaaDoor

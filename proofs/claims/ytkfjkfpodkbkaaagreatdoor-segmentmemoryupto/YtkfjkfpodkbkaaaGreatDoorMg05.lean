/- Merged: DkIns2, DkZer. -/
import Derived.Test.YtkfjkfpodkbkaaaGreatDoorMg04
import Derived.Lib.AppendZerosOnto
set_option linter.unusedVariables false
namespace Go.Proofs.YtkfjkfpodkbkaaaGreatDoor
open Go Go.RowKit

theorem Nv_app (a b : List Nat) : Nv (a ++ b) = Nv a ++ Nv b := List.map_append
theorem Nv_get {zs : List Nat} {j : Nat} {u : Value} (h : (Nv zs)[j]? = some u) : ∃ hj : j < zs.length, u = .int .i64 ((zs[j] : Nat) : Int) := by
  obtain ⟨hj, e⟩ := List.getElem?_eq_some_iff.1 h
  simp at hj
  exact ⟨hj, by simpa using e.symm⟩

/-- A row behind a grown capacity. -/
theorem ownN_new {w : World} {base : Nat} {zs : List Nat} {cap k : Nat} (cs : Array Value) (hb : base ≤ w.heap.size) (hn : zs.length ≤ cap) (hm : cap ≤ maxLen) (hs : cs.size = cap) (ht : cs.toList.take zs.length = Nv zs) :
    OwnN (w.alloc (.cells cs 3)) base (.slice (some ⟨w.heap.size, 0, none⟩) zs.length cap) zs := OwnN.mk hb (heap_alloc_new _ _) hn hm hs ht

/-- An own row, told by its block's shape and its cells. -/
theorem OwnN.of_at {w : World} {base g cap : Nat} {cur : Array Value} {zs : List Nat} (hb : base ≤ g) (hg : w.heap[g]? = some (.cells cur 3 (0, 0))) (hn : zs.length ≤ cap) (hm : cap ≤ maxLen) (hs : cur.size = cap) (ha : AtN w g 0 zs) :
    OwnN w base (.slice (some ⟨g, 0, none⟩) zs.length cap) zs := by
  refine OwnN.mk hb hg hn hm hs (List.ext_getElem? fun j => ?_)
  rw [List.getElem?_take, Array.getElem?_toList, List.getElem?_map]
  by_cases hj : j < zs.length
  · have e := ha j hj
    rw [cell_of_row w g _ cur _ (0, 0) hg, Nat.zero_add] at e
    rw [if_pos hj, e, List.getElem?_eq_getElem hj]
    rfl
  · rw [if_neg hj, List.getElem?_eq_none (by omega)]
    rfl

theorem shape_setCells (g t : Nat) (vs : List Value) (o : Nat) (w : World) (cur : Array Value) (h : w.heap[g]? = some (.cells cur t (0, 0))) (hl : o + vs.length ≤ cur.size) :
    ∃ cur', (w.setCells g o vs).heap[g]? = some (.cells cur' t (0, 0)) ∧ cur'.size = cur.size := by
  refine ⟨_, heap_setCells g t vs o w cur h hl, ?_⟩
  simp
  omega

/-- x put at place k by two runs of stores. -/
theorem at_put {w : World} {g k x : Nat} {zs : List Nat} (hk : k ≤ zs.length) (hlo : ∀ i (h : i < k), w.cell? ⟨g, i, none⟩ = some (.int .i64 ((zs[i]'(by omega) : Nat) : Int)))
    (hhi : ∀ i (h1 : k ≤ i) (h : i < zs.length), w.cell? ⟨g, i + 1, none⟩ = some (.int .i64 ((zs[i] : Nat) : Int))) (hx : w.cell? ⟨g, k, none⟩ = some (.int .i64 (x : Int))) : AtN w g 0 (zs.take k ++ x :: zs.drop k) := by
  intro i hi
  rw [Nat.zero_add]
  have hlen : (zs.take k).length = k := by rw [List.length_take]; omega
  by_cases c1 : i < k
  · rw [hlo i c1, List.getElem_append_left (by omega)]
    simp
  · by_cases c2 : i = k
    · subst c2
      rw [hx, List.getElem_append_right (by omega)]
      simp [hlen]
    · have e := hhi (i - 1) (by omega) (by simp at hi; omega)
      rw [show i - 1 + 1 = i by omega] at e
      rw [e, List.getElem_append_right (by omega)]
      have e3 : i - (zs.take k).length = (i - 1 - k) + 1 := by omega
      simp only [e3, List.getElem_cons_succ, List.getElem_drop]
      congr 4
      omega

theorem insert_any (base : Nat) (v : Value) (zs : List Nat) (k x vb : Nat) (w : World) (h : OwnN w base v zs) (hk : k ≤ zs.length) (hl : zs.length ≤ 10000000000000) (hbase : base ≤ w.heap.size)
    (hvb : w.heap[vb]? = some (.cells #[.int .i64 (x : Int)] 3 (0, 0))) (hne : vb ∉ ob v) :
    Calls Tryz.prog 143 #[v, .int .i64 (k : Int), .slice (some ⟨vb, 0, none⟩) 1 1] w fun e w' => ∃ v', e = .returned v' ∧ OwnN w' base v' (zs.take k ++ x :: zs.drop k) ∧ (∀ b ∈ ob v', b ∈ ob v ∨ w.heap.size ≤ b) ∧ Touch w w' (ob v) := by
  have hvc : ∀ j u, ([Value.int .i64 (x : Int)] : List Value)[j]? = some u → w.cell? ⟨vb, 0 + j, none⟩ = some u := fun j u hu => by
    match j, hu with
    | 0, hu => simp at hu; subst hu; rw [cell_of_row _ _ _ _ _ _ hvb]; rfl
  have hv1 : ∀ u ∈ ([Value.int .i64 (x : Int)] : List Value), u.oneCell' = true := fun u hu => by simp at hu; subst hu; rfl
  have hm1 : ∀ need old, need ≤ maxLen → grownCap w need old 3 ≤ maxLen := fun need old hh => grownCap_le_maxLen w need old _ hh
  have hcg : ∀ need old, need ≤ grownCap w need old 3 := fun need old => grownCap_ge w need old _
  have ren : Tryz.insertI_ren.t 3 = 3 := rfl
  have e2 : (zs.take k ++ x :: zs.drop k).length = zs.length + 1 := by simp; omega
  rcases h.parts with ⟨rfl, rfl⟩ | ⟨g, cap, cur, rfl, hb, hlt, hg, hnc, hcm, hcs, ht⟩
  · obtain rfl : k = 0 := by simpa using hk
    have hc : Calls Tryz.prog 143 _ _ _ := Any2.slices_Insert_int_end_grow Tryz.insertI none 0 0 vb 0 1 1 [] [.int .i64 (x : Int)] w (by decide) (Nat.le_refl _) (by decide) (by decide) rfl rfl (fun _ => rfl) (fun a e => by cases e) hvc hv1
    rw [ren] at hc
    refine hc.mono ?_
    rintro e w' ⟨rfl, rfl⟩
    refine ⟨_, rfl, ?_, fun b hb => .inr (by simp [ob, Value.ownBlock] at hb; omega), Touch.of_up (Up.trans (Up.drew w) (Up.alloc _ _)) _⟩
    have h1 := hcg 1 0
    have hz : (Builtin.zeroCells (Value.int .i64 0).cells (grownCap w 1 0 3 - 1)).size = grownCap w 1 0 3 - 1 := by rw [size_zeroCells]; simp [Value.cells]
    exact ownN_new (w := w.drew) (zs := [x]) (k := 0) _ hbase h1 (hm1 1 0 (by unfold maxLen; omega)) (by rw [Array.size_append]; simp only [Nat.zero_add]; rw [hz]; simp; omega) (by simp)
  · have hat := OwnN.at h
    have hcells : ∀ j u, (Nv zs)[j]? = some u → w.cell? ⟨g, 0 + j, none⟩ = some u := fun j u hu => by
      obtain ⟨hj, rfl⟩ := Nv_get hu
      exact hat j hj
    have hsome : ∀ j, j < cap → (w.cell? ⟨g, j, none⟩).isSome = true := fun j hj => by
      rw [cell_of_row w g j cur _ (0, 0) hg, Array.getElem?_eq_getElem (by omega)]; rfl
    have hfz : ∀ j, w.frozen? ⟨g, j, none⟩ = false := fun j => by simp [World.frozen?, hg]
    have hl63 : cap ≤ 9223372036854775807 := by unfold maxLen at hcm; omega
    have hvg : vb ≠ g := fun e => hne (by simp [ob, Value.ownBlock, e])
    have hat0 : ∀ i (hi : i < zs.length), w.cell? ⟨g, i, none⟩ = some (.int .i64 ((zs[i] : Nat) : Int)) := fun i hi => by have := hat i hi; rwa [Nat.zero_add] at this
    by_cases hroom : zs.length + 1 ≤ cap
    · by_cases hkn : k = zs.length
      · have hc : Calls Tryz.prog 143 _ _ _ := Any2.slices_Insert_int_end_room Tryz.insertI g 0 zs.length cap vb 0 1 1 [.int .i64 (x : Int)] w (by decide) hroom hl63 rfl
          (fun j hj => hsome _ (by omega)) (fun j hj => hfz _) hvc hv1
        rw [hkn] at e2 ⊢
        refine hc.mono ?_
        rintro e w' ⟨rfl, rfl⟩
        refine ⟨_, rfl, ?_, fun b hb => .inl hb, touch_setCells _ _ (Touch.refl _ _) (.inl (by simp [ob, Value.ownBlock]))⟩
        obtain ⟨cur', hh, hsz⟩ := shape_setCells g 3 [.int .i64 (x : Int)] (0 + zs.length) w cur hg (by simp; omega)
        have h0 := OwnN.of_at (zs := zs.take zs.length ++ x :: zs.drop zs.length) hb hh (by rw [e2]; exact hroom) hcm (by rw [hsz]; exact hcs) (at_put (Nat.le_refl _)
          (fun i hi => by rw [World.cell?_setCells_out _ _ _ _ _ (fun _ _ => .inl (by simp; omega))]; exact hat0 i hi) (fun i h1 h2 => by omega)
          (by have := World.cell?_setCells_in g [.int .i64 (x : Int)] (0 + zs.length) w (fun j hj => hsome _ (by simp at hj; omega)) 0 (by simp); simpa using this))
        rw [e2] at h0
        exact h0
      · have hc : Calls Tryz.prog 143 _ _ _ := Any2.slices_Insert_int_shift Tryz.insertI g 0 zs.length cap k vb 0 1 1 (Nv zs) [.int .i64 (x : Int)] w (by omega) (by decide) hroom hl63 hvg (by simp) rfl hcells
          (fun j hj => hsome _ (by omega)) (fun j hj => hfz _) hvc (Nv_one zs) hv1 3 3 1 cap (by simp [World.shape?, hvb]) (by simp [World.shape?, hg, hcs]) (by omega) (by simp [World.frozen?, hvb]) (by simp [World.frozen?, hvb])
        refine hc.mono ?_
        rintro e w' ⟨rfl, rfl⟩
        refine ⟨_, rfl, ?_, fun b hb => .inl hb, touch_setCells _ _ (touch_setCells _ _ (Touch.drew (Touch.refl _ _)) (.inl (by simp [ob, Value.ownBlock]))) (.inl (by simp [ob, Value.ownBlock]))⟩
        obtain ⟨cur1, hh1, hs1⟩ := shape_setCells g 3 ((Nv zs).drop k) (0 + (k + 1)) w.drew cur hg (by simp; omega)
        obtain ⟨cur2, hh2, hs2⟩ := shape_setCells g 3 [.int .i64 (x : Int)] (0 + k) _ _ hh1 (by simp; omega)
        have hsome1 : ∀ j, j < cap → ((w.drew.setCells g (0 + (k + 1)) ((Nv zs).drop k)).cell? ⟨g, j, none⟩).isSome = true := fun j hj => by
          rw [cell_of_row _ g j cur1 _ (0, 0) hh1, Array.getElem?_eq_getElem (by omega)]; rfl
        have h0 := OwnN.of_at (zs := zs.take k ++ x :: zs.drop k) hb hh2 (by rw [e2]; exact hroom) hcm (by omega) (at_put hk
          (fun i hi => by rw [World.cell?_setCells_out _ _ _ _ _ (fun _ _ => .inl (by simp; omega)), World.cell?_setCells_out _ _ _ _ _ (fun _ _ => .inl (by simp; omega))]; exact hat0 i (by omega))
          (fun i h1 h2 => by
            rw [World.cell?_setCells_out _ _ _ _ _ (fun _ _ => .inr (by simp; omega))]
            have := World.cell?_setCells_in g ((Nv zs).drop k) (0 + (k + 1)) w.drew (fun j hj => hsome _ (by simp at hj; omega)) (i - k) (by simp; omega)
            rw [show 0 + (k + 1) + (i - k) = i + 1 by omega] at this
            rw [this]
            simp only [List.getElem_drop, List.getElem_map, show k + (i - k) = i by omega])
          (by have := World.cell?_setCells_in g [.int .i64 (x : Int)] (0 + k) _ (fun j hj => hsome1 _ (by simp at hj; omega)) 0 (by simp); simpa using this))
        rw [e2] at h0
        exact h0
    · have hG := hcg (zs.length + 1) cap
      have hM := hm1 (zs.length + 1) cap (by unfold maxLen; omega)
      by_cases hkn : k = zs.length
      · have hc : Calls Tryz.prog 143 _ _ _ := Any2.slices_Insert_int_end_grow Tryz.insertI (some ⟨g, 0, none⟩) zs.length cap vb 0 1 1 (Nv zs) [.int .i64 (x : Int)] w (by decide) hnc (by omega) (by omega) (by simp) rfl (fun e => by cases e)
          (fun a e => by cases e; intro j u hu; rw [Addr.add_lit]; exact hcells j u hu) hvc hv1
        rw [ren] at hc
        rw [hkn] at e2 ⊢
        refine hc.mono ?_
        rintro e w' ⟨rfl, rfl⟩
        refine ⟨_, rfl, ?_, fun b hb => .inr (by simp [ob, Value.ownBlock] at hb; omega), Touch.of_up (Up.trans (Up.drew w) (Up.alloc _ _)) _⟩
        have e1 : zs.take zs.length ++ x :: zs.drop zs.length = zs ++ [x] := by simp
        have hz : (Builtin.zeroCells (Value.int .i64 0).cells (grownCap w (zs.length + 1) cap 3 - (zs.length + 1))).size = grownCap w (zs.length + 1) cap 3 - (zs.length + 1) := by rw [size_zeroCells]; simp [Value.cells]
        have h0 := ownN_new (w := w.drew) (base := base) (zs := zs ++ [x]) (k := 0) (cap := grownCap w (zs.length + 1) cap 3) ((Nv zs ++ [Value.int .i64 (x : Int)]).toArray ++ Builtin.zeroCells (Value.int .i64 0).cells (grownCap w (zs.length + 1) cap 3 - (zs.length + 1))) hbase (by simp; exact hG) hM (by rw [Array.size_append, hz]; simp; omega)
          (by rw [Array.toList_append, List.take_append_of_le_length (by simp), List.take_of_length_le (by simp)]; simp [Nv])
        rw [e1]
        simp only [List.length_append, List.length_cons, List.length_nil] at h0
        exact h0
      · have hc : Calls Tryz.prog 143 _ _ _ := Any2.slices_Insert_int_grow Tryz.insertI g 0 zs.length cap k vb 0 1 1 (Nv zs) [.int .i64 (x : Int)] w (by omega) (by decide) hnc (by omega) (by omega) (by simp) rfl hcells hvc (Nv_one zs) hv1
        rw [ren] at hc
        refine hc.mono ?_
        rintro e w' ⟨rfl, rfl⟩
        refine ⟨_, rfl, ?_, fun b hb => .inr (by simp [ob, Value.ownBlock] at hb; omega), ?_⟩
        · generalize hA : (((Nv zs).take k).toArray ++ Builtin.zeroCells (Value.int .i64 0).cells (zs.length + 1 - k) ++ Builtin.zeroCells (Value.int .i64 0).cells (grownCap w (zs.length + 1) cap 3 - (zs.length + 1))) = A
          have hAs : A.size = grownCap w (zs.length + 1) cap 3 := by
            rw [← hA, Array.size_append, Array.size_append, size_zeroCells, size_zeroCells]
            simp [Value.cells]
            omega
          have hA0 : ∀ i (hi : i < k), A[i]? = some (.int .i64 ((zs[i]'(by omega) : Nat) : Int)) := fun i hi => by
            rw [← hA, Array.append_assoc, Array.getElem?_append_left (by simp; omega)]
            simp only [List.getElem?_toArray, List.getElem?_take, if_pos hi, List.getElem?_map, List.getElem?_eq_getElem (show i < zs.length by omega), Option.map_some]
          have hn := heap_alloc_new w (.cells A 3)
          obtain ⟨cur1, hh1, hs1⟩ := shape_setCells w.heap.size 3 [Value.int .i64 (x : Int)] k (w.alloc (.cells A 3)).drew A hn (by simp; omega)
          obtain ⟨cur2, hh2, hs2⟩ := shape_setCells w.heap.size 3 ((Nv zs).drop k) (k + 1) ((w.alloc (.cells A 3)).drew.setCells w.heap.size k [Value.int .i64 (x : Int)]).drew cur1 hh1 (by simp; omega)
          have hsA : ∀ j, j < A.size → (((w.alloc (.cells A 3)).drew).cell? ⟨w.heap.size, j, none⟩).isSome = true := fun j hj => by
            rw [show ((w.alloc (.cells A 3)).drew).cell? ⟨w.heap.size, j, none⟩ = A[j]? from cell_of_row _ _ _ _ _ _ hn, Array.getElem?_eq_getElem hj]; rfl
          have hs1' : ∀ j, j < A.size → ((((w.alloc (.cells A 3)).drew).setCells w.heap.size k [Value.int .i64 (x : Int)]).drew.cell? ⟨w.heap.size, j, none⟩).isSome = true := fun j hj => by
            rw [show (((w.alloc (.cells A 3)).drew).setCells w.heap.size k [Value.int .i64 (x : Int)]).drew.cell? ⟨w.heap.size, j, none⟩ = cur1[j]? from cell_of_row _ _ _ _ _ _ hh1, Array.getElem?_eq_getElem (by omega)]; rfl
          have h0 := OwnN.of_at (zs := zs.take k ++ x :: zs.drop k) hbase hh2 (by rw [e2]; exact hG) hM (by omega) (at_put hk
            (fun i hi => by
              rw [World.cell?_setCells_out _ _ _ _ _ (fun _ _ => .inl (by simp; omega))]
              show (((w.alloc (.cells A 3)).drew).setCells w.heap.size k [Value.int .i64 (x : Int)]).cell? _ = _
              rw [World.cell?_setCells_out _ _ _ _ _ (fun _ _ => .inl (by simp; omega))]
              rw [show ((w.alloc (.cells A 3)).drew).cell? ⟨w.heap.size, i, none⟩ = A[i]? from cell_of_row _ _ _ _ _ _ hn]
              exact hA0 i hi)
            (fun i h1 h2 => by
              have := World.cell?_setCells_in w.heap.size ((Nv zs).drop k) (k + 1) _ (fun j hj => hs1' _ (by simp at hj; omega)) (i - k) (by simp; omega)
              rw [show k + 1 + (i - k) = i + 1 by omega] at this
              rw [this]
              simp only [List.getElem_drop, List.getElem_map, show k + (i - k) = i by omega])
            (by
              rw [World.cell?_setCells_out _ _ _ _ _ (fun _ _ => .inl (by simp))]
              have := World.cell?_setCells_in w.heap.size [Value.int .i64 (x : Int)] k _ (fun j hj => hsA _ (by simp at hj; omega)) 0 (by simp)
              simpa using this))
          rw [e2] at h0
          exact h0
        · exact touch_setCells _ _ (Touch.drew (touch_setCells _ _ (Touch.drew (Touch.of_up (Up.alloc _ _) _)) (.inr (Nat.le_refl _)))) (.inr (Nat.le_refl _))

end Go.Proofs.YtkfjkfpodkbkaaaGreatDoor

set_option linter.unusedVariables false
namespace Go.Proofs.YtkfjkfpodkbkaaaGreatDoor
open Go Go.RowKit

theorem zeroCells_toList (n : Nat) : (Builtin.zeroCells (Value.int .u8 0).cells n).toList = Bv (List.replicate n 0) := by
  refine List.ext_getElem (by simp [size_zeroCells, Value.cells]) fun i h1 h2 => ?_
  simp [Builtin.zeroCells, Value.cells, B, Nat.mod_one]

theorem OwnB.parts {w : World} {base : Nat} {v : Value} {bs : List UInt8} (h : OwnB w base v bs) : (v = .slice none 0 0 ∧ bs = []) ∨
    ∃ g cap cur, v = .slice (some ⟨g, 0, none⟩) bs.length cap ∧ base ≤ g ∧ g < w.heap.size ∧ w.heap[g]? = some (.cells cur 5 (0, 0)) ∧ bs.length ≤ cap ∧ cap ≤ maxLen ∧ cur.size = cap ∧ cur.toList.take bs.length = Bv bs := by
  obtain ⟨hl, ⟨rfl, hn⟩ | ⟨g, cap, cur, rfl, hb, hg, hnc, hcm, hcs, ht⟩⟩ := h
  · exact .inl ⟨rfl, List.eq_nil_of_length_eq_zero hn⟩
  · exact .inr ⟨g, cap, cur, rfl, hb, (Array.getElem?_eq_some_iff.1 hg).1, hg, hnc, hcm, by simpa using hcs, by simpa using ht⟩
theorem OwnB.mk {w : World} {base g cap : Nat} {cur : Array Value} {bs : List UInt8} (hb : base ≤ g) (hg : w.heap[g]? = some (.cells cur 5 (0, 0))) (hn : bs.length ≤ cap) (hm : cap ≤ maxLen) (hs : cur.size = cap) (ht : cur.toList.take bs.length = Bv bs) :
    OwnB w base (.slice (some ⟨g, 0, none⟩) bs.length cap) bs :=
  ⟨by simp, .inr ⟨g, cap, cur, rfl, hb, hg, hn, hm, by simpa using hs, by simpa using ht⟩⟩

theorem app_zeros (base : Nat) (v : Value) (bs : List UInt8) (n : Nat) (w : World) (h : OwnB w base v bs) (hl : bs.length + n ≤ CB) (hbase : base ≤ w.heap.size) :
    ∃ v' w', (Builtin.append_ #[60, 3] 60 #[v, .int .i64 (n : Int)]).run Tryz.prog w = .ok v' w' ∧ OwnB w' base v' (bs ++ List.replicate n 0) ∧ (∀ b ∈ ob v', b ∈ ob v ∨ w.heap.size ≤ b) ∧ Touch w w' (ob v) := by
  obtain ⟨i0, hi, hz0, hz1, hz2⟩ := info_parts Tryz.infoB
  have hsz : Tryz.prog.info? 5 = some i0 := hi
  unfold CB at hl
  have hcells : (Value.int .u8 0).cells = #[.int .u8 0] := rfl
  rcases h.parts with ⟨rfl, rfl⟩ | ⟨g, cap, cur, rfl, hb, hlt, hg, hnc, hcm, hcs, ht⟩
  · by_cases hn : n = 0
    · subst hn
      refine ⟨.slice none 0 0, w, ?_, Own.nil _ _ _, fun b hb => .inl hb, Touch.refl _ _⟩
      simp [Builtin.append_, run_underlying Tryz.underlying60, run_underlying Tryz.underlying3, sizeOf, typeInfo, hi, asInt, asIntOf, IntKind.wrap_i64]
    · have hr := Lib.run_append_nil_zeros (P := Tryz.prog) w 60 3 60 5 i0 (.int .u8 0) .i64 .i64 Tryz.underlying60 Tryz.underlying3 hi hz0 n (by omega) (by omega) (by simp at hl; omega) (by rw [hz2]; simp at hl; omega)
      have hG := grownCap_ge w n 0 5
      refine ⟨_, _, hr, ?_, fun b hb => .inr (by simp [ob, Value.ownBlock] at hb; omega), Touch.of_up (Up.trans (Up.drew w) (Up.alloc _ _)) _⟩
      have h0 := OwnB.mk (w := w.drew.alloc (.cells (Builtin.zeroCells (Value.int .u8 0).cells n ++ Builtin.zeroCells (Value.int .u8 0).cells (grownCap w n 0 5 - n)) 5)) (bs := List.replicate n 0) (g := w.heap.size) (cap := grownCap w n 0 5) hbase (heap_alloc_new w.drew _) (by simpa using hG) (grownCap_le_maxLen w n 0 _ (by unfold maxLen; simp at hl; omega))
        (by rw [Array.size_append, size_zeroCells, size_zeroCells, hcells]; simp; omega)
        (by rw [Array.toList_append, zeroCells_toList, zeroCells_toList, List.take_append_of_le_length (by simp), List.take_of_length_le (by simp)])
      rw [List.length_replicate] at h0
      rw [List.nil_append]
      exact h0
  · have e1 : (bs ++ List.replicate n 0).length = bs.length + n := by simp
    by_cases hroom : bs.length + n ≤ cap
    · have hst := run_storeCells_at Tryz.prog g bs.length 5 (Bv (List.replicate n 0)) 0 cur w hg (by simp; omega) (Bv_one _)
      have hrun : (Builtin.append_ #[60, 3] 60 #[.slice (some ⟨g, 0, none⟩) bs.length cap, .int .i64 (n : Int)]).run Tryz.prog w = .ok (.slice (some ⟨g, 0, none⟩) (bs.length + n) cap) (w.setRow g (cur.toList.take bs.length ++ Bv (List.replicate n 0) ++ cur.toList.drop (bs.length + n)).toArray) := by
        have hw : IntKind.i64.wrap (n : Int) = n := by rw [IntKind.wrap_i64]; omega
        have hneg : ¬ ((n : Int) < 0) := by omega
        have h48 : ¬ (281474976710656 < (n : Int)) := by omega
        have hzl : (Builtin.zeroCells #[Value.int .u8 0] n).toList = Bv (List.replicate n 0) := zeroCells_toList n
        by_cases hn0 : n = 0
        · subst hn0
          have he : cur.toList.take bs.length ++ Bv (List.replicate 0 0) ++ cur.toList.drop (bs.length + 0) = cur.toList := by simp
          rw [he, Array.toArray_toList, setRow_self _ _ _ _ _ hg]
          have hs0 : ∀ a, (storeCells a []).run Tryz.prog w = .ok () w := fun a => rfl
          simp [Builtin.append_, run_underlying Tryz.underlying60, run_underlying Tryz.underlying3, sizeOf, typeInfo, hi, asInt, asIntOf, IntKind.wrap_i64, hnc, hs0]
        · simp only [Nat.add_zero, List.length_map, List.length_replicate] at hst
          generalize Bv (List.replicate n 0) = Z at hst hzl ⊢
          simp [Builtin.append_, run_underlying Tryz.underlying60, run_underlying Tryz.underlying3, sizeOf, typeInfo, zeroValue, hi, hz0, hz1, hz2, asInt, asIntOf, hw, hneg, h48, hroom, hn0, Value.cells, hzl, Addr.add_lit, hst]
      refine ⟨_, _, hrun, ?_, fun b hb => .inl hb, (Touch.refl _ _).setRow (.inl (by simp [ob, Value.ownBlock])) _⟩
      have h0 := OwnB.mk (w := w.setRow g (cur.toList.take bs.length ++ Bv (List.replicate n 0) ++ cur.toList.drop (bs.length + n)).toArray) (bs := bs ++ List.replicate n 0) hb (setRow_heap _ _ _ _ _ _ hg) (by rw [e1]; exact hroom) hcm (by simp; omega)
        (by rw [e1, ht]; simp only [Bv, List.map_append]; rw [List.take_append_of_le_length (by simp), List.take_of_length_le (by simp)])
      rw [e1] at h0
      exact h0
    · have hold : (Builtin.firstCells i0.size bs.length (.slice (some ⟨g, 0, none⟩) bs.length cap)).run Tryz.prog w.drew = .ok (Bv bs).toArray w.drew := by
        have hat := (Own.sl h)
        have := run_firstCells_some (P := Tryz.prog) w.drew i0.size bs.length ⟨g, 0, none⟩ bs.length cap (Bv bs) (by simp [hz1]) (fun j u hu => by
          rw [Addr.add_lit, cell_of_row w.drew g _ cur _ (0, 0) hg]
          have := congrArg (·[j]?) ht
          simp only [List.getElem?_take, Array.getElem?_toList] at this
          have hj : j < bs.length := by have := (List.getElem?_eq_some_iff.1 hu).1; simpa using this
          rw [if_pos hj] at this
          rw [Nat.zero_add, this]
          exact hu)
        exact this
      have hnc1 := grownCap_ge w (bs.length + n) cap 5
      have hfit : Builtin.nextslicecap (bs.length + n) cap * i0.bytes ≤ 281474976710656 := by
        rw [hz2]
        exact growslice_fits_wide (by omega) (by omega)
      have hr := Lib.run_append_grow_zeros (P := Tryz.prog) w 60 3 60 5 i0 (.int .u8 0) .i64 .i64 Tryz.underlying60 Tryz.underlying3 hi hz0 (some ⟨g, 0, none⟩) bs.length cap (Bv bs) hold n (by omega) (by omega) (by omega) (by omega) (by rw [hz2]; omega) hfit
      refine ⟨_, _, hr, ?_, fun b hb => .inr (by simp [ob, Value.ownBlock] at hb; omega), Touch.of_up (Up.trans (Up.drew w) (Up.alloc _ _)) _⟩
      have h0 := OwnB.mk (w := w.drew.alloc (.cells ((Bv bs).toArray ++ Builtin.zeroCells (Value.int .u8 0).cells n ++ Builtin.zeroCells (Value.int .u8 0).cells (grownCap w (bs.length + n) cap 5 - (bs.length + n))) 5)) (bs := bs ++ List.replicate n 0) (g := w.heap.size) (cap := grownCap w (bs.length + n) cap 5) hbase (heap_alloc_new w.drew _) (by rw [e1]; exact hnc1) (grownCap_le_maxLen w _ _ _ (by unfold maxLen; omega))
        (by rw [Array.size_append, Array.size_append, size_zeroCells, size_zeroCells, hcells]; simp; omega)
        (by rw [e1, Array.toList_append, Array.toList_append, zeroCells_toList, zeroCells_toList]; simp only [Bv, List.map_append]; rw [List.take_append_of_le_length (by simp), List.take_of_length_le (by simp)])
      rw [e1] at h0
      exact h0

end Go.Proofs.YtkfjkfpodkbkaaaGreatDoor
